/- PROVED: for every text, every input and every fuel the law Runs returns true, and each argument reads behind the call as it read before. No condition of our own. -/
import Derived.Test.YtblhmeidbjigaaaRows
import Derived.WalkKit
import Derived.WalkSpells
import Derived.WalkLawsBesides
import Derived.Laws.BytesArg
import Derived.Deep.QuietTactic
import Derived.BigQuiet
import Derived.Deep.RegionHeld3
import Derived.Maps.AppendAt
import Derived.StillTailTactics
import Derived.ProofKit
import Derived.SizedLaws
import Derived.Deep.Slices
import Derived.Lib.SmallJoins
import Derived.ShutString
import Derived.ChangeOld
import Derived.OpenShut
import Derived.Deep.Strs
import Derived.Test.YtblhmeidbjigaaaLRoomToOpenIRuns

set_option linter.unusedSimpArgs false
set_option linter.unusedVariables false
namespace Go.Proofs.Ytblhmeidbjigaaa
open Go.RowKit Go.ChangeShapes Go.WideShapes Go.ChangeAt Go.Deep
open Go.ChangeMaps (open_string shut_string)

theorem Try.cellsInput : Try.prog.cellsOf 52 = 3 := by kernel_rfl
theorem Try.cellsInts : Try.prog.cellsOf 36 = 1 := by kernel_rfl

section
variable {H : Type} {enc : TypeId × Value → H} {w : World} {spare : Nat → Bool} {held : Bool}

theorem three_cells (cs : Array Value) (h : cs.size = 3) : ∃ a b c, cs = #[a, b, c] := by
  rcases cs with ⟨l⟩
  match l, h with
  | [a, b, c], _ => exact ⟨a, b, c, rfl⟩

set_option maxRecDepth 100000 in
theorem open_input_arg {v : Value} {d : DataW H} {p : List MemPlace} {r : Reach} {b0 : Nat} (hv : Value.okWide Try.prog w r b0 52 v) (h : DataW.Trod enc Try.prog w 0 spare held 52 v d p) (hs : ∀ n ∈ d.weights Try.prog 52, n ≤ reachBytes) :
    ∃ a m s la lm ls, v = .agg #[a, m, s] ∧ RdWords w a la ∧ RdWords w m lm ∧ RdWords w s ls ∧ la.length ≤ 17592186044416 ∧ lm.length ≤ 17592186044416 ∧ ls.length ≤ 17592186044416 := by
  obtain ⟨cs, rfl, hcs⟩ := okWide_struct Try.underlying52 hv
  rw [Try.cellsInput] at hcs
  obtain ⟨c0, c1, c2, rfl⟩ := three_cells cs hcs
  obtain ⟨fuel, hf⟩ := h
  obtain ⟨y0, y1, y2, n, hx, _, h0, h1, h2⟩ := trod_struct3 Try.underlying52 hf
  simp only [Try.cellsInts] at h0 h1 h2
  simp only [Prod.mk.injEq] at hx
  obtain ⟨l0, r0, n0, _⟩ := open_words (v := c0) (x := y0) (by simpa [Value.cells] using h0) (fun n hn => hs n (by
    rw [hx.1]
    simp [DataW.weights, Try.underlying52, DataW.weightsEach]
    exact .inl hn))
  obtain ⟨l1, r1, n1, _⟩ := open_words (v := c1) (x := y1) (by simpa [Value.cells] using h1) (fun n hn => hs n (by
    rw [hx.1]
    simp [DataW.weights, Try.underlying52, DataW.weightsEach]
    exact .inr (.inl hn)))
  obtain ⟨l2, r2, n2, _⟩ := open_words (v := c2) (x := y2) (by simpa [Value.cells] using h2) (fun n hn => hs n (by
    rw [hx.1]
    simp [DataW.weights, Try.underlying52, DataW.weightsEach]
    exact .inr (.inr hn)))
  exact ⟨c0, c1, c2, l0, l1, l2, rfl, r0, r1, r2, n0, n1, n2⟩
end

set_option maxRecDepth 100000 in
set_option maxHeartbeats 1000000 in
theorem runs_any (s : ByteArray) (av mv sv : Value) (args mem spill : List Int) (fuel : Int) (w : World) (ha : RdWords w av args) (hm : RdWords w mv mem) (hsp : RdWords w sv spill) (hla : args.length ≤ 17592186044416) (hlm : mem.length ≤ 17592186044416) (hls : spill.length ≤ 17592186044416) (hs : s.size ≤ maxLen) :
    Calls Try.prog 6 #[.string s, .agg #[av, mv, sv], .int .i64 fuel] w fun e w' => e = .returned (.bool true) ∧ Below w.heap.size w w' := by
  obtain ⟨ao, ac, rfl, _, _⟩ := id ha
  obtain ⟨mo, mc, rfl, _, _⟩ := id hm
  obtain ⟨so, sc, rfl, _, _⟩ := id hsp
  have hal := (Below.refl w.heap.size w).alloc (Nat.le_refl _) (.cells #[.slice ao args.length ac, .slice mo mem.length mc, .slice so spill.length sc] 52)
  go_enter Try.func6, Try.ntmps6
  go_wp2_with fail
  refine ran_cps s _ _ _ args mem spill fuel _ (ha.keep hal) (hm.keep hal) (hsp.keep hal) hla hlm hls hs _ ?_
  intro k r mo' mn mc' lo ln lc w1 hb1
  have hz := hb1.size
  simp at hz
  have hb2 : Below w.heap.size w w1 := hal.trans (hb1.mono (by simp))
  have hb3 := hb2.alloc (show w.heap.size ≤ w1.heap.size by omega) (.cells #[.int .i64 k, .int .i64 r, .slice mo' mn mc', .slice lo ln lc] 54)
  clear hal hb1 hb2 ha hm hsp
  go_wp2
  go_ret
  exact ⟨by simp, hb3⟩

theorem Try.own : ownKnob Try.prog.godebug = none := by kernel_rfl
theorem Try.laidOut : laidOutB Try.prog = true := by kernel_rfl

set_option maxRecDepth 100000 in
theorem runs_lifted (os : Os) (started : os.Started) (H : Type) (enc : TypeId × Value → H) :
    ReturnsInHanded {} Try.checked os 6 .any (Rows.runsSpec.pre6 enc Try.prog Try.f6 Rows.runsRow.domain false) (Rows.runsSpec.post enc Try.prog Try.f6 false true false false) := by
  refine returnsInHanded_of_change_sized (C := Try.checked) Try.own started (by kernel_rfl) Try.func6
    (ChangeSpec.witness6 (enc := enc) (C := Try.checked) false ⟨#[], #[.string ⟨#[]⟩, .agg #[.slice none 0 0, .slice none 0 0, .slice none 0 0], .int .i64 0], []⟩ 8 (by kernel_rfl) (by kernel_rfl) (by kernel_rfl) (by kernel_rfl)) ?_
  intro W base args ds gs before hval0 hW hcnd hsz0 _
  have hval : ∀ (j : Nat) t v, Try.f6.params[j]? = some t → args[j]? = some v → Value.okWide Try.prog W .any base t v := hval0
  have hsz : (DataW.weightsEach Try.prog (Try.f6.params.toList ++ Rows.runsSpec.plain.varTypes Try.prog) (ds ++ gs)).all (· ≤ reachBytes) = true := hsz0
  have hW' := hW
  obtain ⟨p, q, hA0, hV, rfl, hfz, hnd⟩ := hW
  have hA : DataW.TrodAll enc Try.prog W 0 (fun _ => true) true Try.f6.params.toList args.toList ds p := hA0
  rw [Try.params6] at hA hval hsz
  obtain ⟨v0, vs0, d0, ds0, p0, q0, hargs, rfl, rfl, h0, r0⟩ := trodAll_cons hA
  obtain ⟨v1, vs1, d1, ds1, p1, q1, rfl, rfl, rfl, h1, r1⟩ := trodAll_cons r0
  obtain ⟨v2, vs2, d2, ds2, p2, q2, rfl, rfl, rfl, h2, r2⟩ := trodAll_cons r1
  obtain ⟨rfl, rfl, rfl⟩ := trodAll_nil r2
  obtain rfl : args = #[v0, v1, v2] := by cases args; simp_all
  obtain ⟨rfl, rfl⟩ := trodVars_none hV
  have k1 := h1
  have lt1 : ∀ x ∈ p1, x.block < W.heap.size := by obtain ⟨m, hm⟩ := k1; exact DataW.trod_lt m _ _ _ hm
  have hw1 : ∀ n ∈ d1.weights Try.prog 52, n ≤ reachBytes := fun n hn => of_decide_eq_true (List.all_eq_true.1 hsz n (DataW.weights_mem_each (j := 1) rfl rfl n hn))
  obtain ⟨s, rfl, rfl, rfl, hs⟩ := open_string Try.underlying9 (hval 0 9 v0 rfl rfl) h0
  obtain ⟨av, mv, sv, la, lm, ls, rfl, ra, rm, rs, na, nm, ns⟩ := open_input_arg (hval 1 52 v1 rfl rfl) h1 hw1
  obtain ⟨fu, rfl, rfl, rfl, hf⟩ := open_int Try.underlying3 (hval 2 3 v2 rfl rfl) h2
  clear hA0 hval0 hsz0
  refine (runs_any s av mv sv la lm ls fu W ra rm rs na nm ns hs).mono fun e W' ⟨he, bel⟩ => ?_
  subst he
  exact ⟨_, rfl, _, _, _, [], _, [], hW', trodAll_mk1 (shut_bool Try.underlying4 _), (trodAll_cons_mk (shut_string Try.underlying9 hs) (trodAll_cons_mk (Below.trod Try.laidOut (by kernel_rfl) (of_decide_eq_true (by kernel_rfl)) k1 bel lt1) (trodAll_cons_mk (shut_int Try.underlying3 hf) trodAll_mk0))), rfl, bel.frame _, fun h => by cases h⟩

theorem runs_holds : Rows.RunsSaid :=
  OpenClaim.holds_of_wide 6 Try.f6 rfl rfl rfl rfl rfl rfl rfl ⟨rfl, rfl, rfl, rfl, rfl⟩ rfl rfl rfl rfl rfl (by kernel_rfl) Try.func6 (by kernel_rfl)
    (of_decide_eq_true (by kernel_rfl)) (by unfold Func.isWrapper; first | (rw [if_pos (by decide +kernel)]; kernel_rfl) | (rw [if_neg (by decide +kernel)]; exact ⟨rfl, rfl⟩))
    (fun os started H enc _ => runs_lifted os started H enc)

#print axioms runs_holds
end Go.Proofs.Ytblhmeidbjigaaa
