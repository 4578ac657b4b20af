/- PROVED: for every two lists of raw numbers and every text the law Back returns true, and each argument reads behind the call as it read before. No condition of our own. -/
import Derived.Test.YtblhmeidbjigaaaRows
import Derived.WalkKit
import Derived.WalkSpells
import Derived.WalkLawsBesides
import Derived.Laws.BytesArg
import Derived.Deep.QuietTactic
import Derived.BigQuiet
import Derived.Deep.RegionHeld3
import Derived.Deep.RegionLaw
import Derived.Deep.AppendLies
import Derived.ProofKit
import Derived.SizedLaws
import Derived.Deep.Slices
import Derived.Lib.SmallJoins
import Derived.ShutString
import Derived.ChangeOld
import Derived.OpenShut
import Derived.Test.YtblhmeidbjigaaaKWholeToOpenIBack

set_option linter.unusedSimpArgs false
set_option linter.unusedVariables false
namespace Go.Proofs.Ytblhmeidbjigaaa
open Go.RowKit Go.ChangeShapes Go.WideShapes Go.ChangeAt Go.Deep
open Go.ChangeMaps (open_string shut_string)

theorem RdWords.raw {w : World} {v : Value} {l : List Int} (h : RdWords w v l) (hw : Wide l) : RdInts w v l.length := by
  obtain ⟨ao, cap, rfl, hl, hc⟩ := h
  refine ⟨ao, cap, rfl, hl, fun i hi => ?_⟩
  obtain ⟨b, off, e, h1⟩ := hc i hi
  have hm : l.getD i 0 ∈ l := getD_mem' hi
  exact ⟨b, off, _, e, (hw _ hm).1, (hw _ hm).2, h1⟩

theorem progText_some (p : ProgD) : ∃ l, progText p = 84 :: l := ⟨_, rfl⟩
theorem hintText_some (h : List PingD) : ∃ l, hintText h = 84 :: l := ⟨_, rfl⟩

theorem str_none (l : List UInt8) (c : UInt8) : (str (c :: l)).toList.isEmpty = false := by
  unfold str; rw [ByteArray.toList_mk]; rfl

set_option maxRecDepth 100000 in
set_option maxHeartbeats 4000000 in
theorem back_any (v0 v1 : Value) (l0 l1 : List Int) (s : ByteArray) (w : World) (h0 : RdWords w v0 l0) (h1 : RdWords w v1 l1) (hw0 : Wide l0) (hw1 : Wide l1) (hs : s.size ≤ maxLen) :
    Calls Try.prog 5 #[v0, v1, .string s] w fun e w' => e = .returned (.bool true) ∧ Below w.heap.size w w' := by
  obtain ⟨o0, c0, rfl, _, _⟩ := id h0
  obtain ⟨o1, c1, rfl, _, _⟩ := id h1
  have r0 := h0.raw hw0
  have r1 := h1.raw hw1
  clear h0 h1 hw0 hw1
  go_enter Try.func5, Try.ntmps5
  go_wp2_with fail
  refine whole_cps o0 l0.length c0 w r0 _ ?_
  intro a0 a1 a2 a3 v bv w1 hg ho hb1
  have hz1 := hb1.size
  obtain ⟨bo, bc, rfl⟩ := owns_slice ho.row
  have hb1a : Below w.heap.size w (w1.alloc (.cells #[.int .i64 a0, .int .i64 a1, .int .i64 a2, .int .i64 a3, .slice bo bv.length bc] 24)) := hb1.alloc (by omega) _
  have hkt := kText_any a0 a1 a2 a3 _ (bdat bv) _ (OwnBlocks.rd ((ho.alloc (.cells #[.int .i64 a0, .int .i64 a1, .int .i64 a2, .int .i64 a3, .slice bo bv.length bc] 24)))) hg
  obtain ⟨tl, htl⟩ := progText_some ⟨a0, a1, a2, a3, bdat bv⟩
  rw [htl] at hkt
  have hne := str_none tl 84
  clear ho hg htl
  go_wp2_with fail
  refine hkt.mono ?_
  clear hkt
  rintro e w2 ⟨rfl, hb2⟩
  have hb02 := hb1a.trans (hb2.mono (by simp; omega))
  have r1b := r1.keep hb02
  have hz2 := hb02.size
  clear hb1 hb1a hb2 r0
  go_wp2_with fail
  refine sugg_cps o1 l1.length c1 w2 r1b _ ?_
  intro v hv w3 hg ho hb3
  have hz3 := hb3.size
  obtain ⟨ho', hc', rfl⟩ := owns_slice ho.row
  have hb03 := hb02.trans (hb3.mono (by omega))
  have hb03a : Below w.heap.size w (w3.alloc (.cells #[.slice ho' hv.length hc'] 31)) := hb03.alloc (by omega) _
  have hkt := kHintText_any _ (hdat hv) _ (OwnHint.rd ((ho.alloc (.cells #[.slice ho' hv.length hc'] 31)))) hg
  obtain ⟨tl2, htl⟩ := hintText_some (hdat hv)
  rw [htl] at hkt
  have hne2 := str_none tl2 84
  clear ho hg htl r1b
  go_wp2_with fail
  refine hkt.mono ?_
  clear hkt
  rintro e w4 ⟨rfl, hb4⟩
  have hb04 := hb03a.trans (hb4.mono (by simp; omega))
  have hz4 := hb04.size
  clear hb3 hb03 hb03a hb4 hb02
  go_wp2_with fail
  refine tDecode_cps s w4 hs _ ?_ ?_
  · intro a0 a1 a2 a3 l v bv w5 ho hl hg ht hb5
    subst hl
    have hz5 := hb5.size
    obtain ⟨bo, bc, rfl⟩ := owns_slice ho.row
    have hb05 : Below w.heap.size w (w5.alloc (.cells #[.int .i64 a0, .int .i64 a1, .int .i64 a2, .int .i64 a3, .slice bo bv.length bc] 24)) := (hb04.trans (hb5.mono (by omega))).alloc (by omega) _
    have hke := tEncode_any ⟨a0, a1, a2, a3, bdat bv⟩ (.slice bo bv.length bc) _ (OwnBlocks.rd ((ho.alloc (.cells #[.int .i64 a0, .int .i64 a1, .int .i64 a2, .int .i64 a3, .slice bo bv.length bc] 24))))
    rw [if_pos hg, ht] at hke
    unfold progV at hke
    clear ho hg ht
    go_wp2_with fail
    refine hke.mono ?_
    clear hke
    rintro e w6 ⟨rfl, hb6⟩
    have hb06 := hb05.trans (hb6.mono (by simp; omega))
    have hz6 := hb06.size
    clear hb5 hb05 hb6 hb04
    go_wp2_with fail
    refine (tDecodeHint_any s w6 hs).mono ?_
    rintro e w7 ⟨⟨v, hv, rfl, ho, hg, ht⟩ | ⟨_, rfl⟩, hb7⟩
    · have hz7 := hb7.size
      obtain ⟨ho', hc', rfl⟩ := owns_slice ho.row
      have hb07 : Below w.heap.size w (w7.alloc (.cells #[.slice ho' hv.length hc'] 31)) := (hb06.trans (hb7.mono (by omega))).alloc (by omega) _
      have hke := tEncodeHint_any _ (hdat hv) _ (OwnHint.rd ((ho.alloc (.cells #[.slice ho' hv.length hc'] 31))))
      rw [if_pos hg, ht] at hke
      clear ho hg ht
      go_wp2_with fail
      refine hke.mono ?_
      clear hke
      rintro e w8 ⟨rfl, hb8⟩
      have hb08 := hb07.trans (hb8.mono (by simp; omega))
      go_wp2
      go_ret
      exact ⟨by simp, hb08⟩
    · have hz7 := hb7.size
      have hb07 := (hb06.trans (hb7.mono (by omega))).alloc (by omega) (.cells #[.slice none 0 0] 31)
      go_wp2
      go_ret
      exact ⟨by simp, hb07⟩
  · intro w5 _ hb5
    have hz5 := hb5.size
    have hb06 : Below w.heap.size w (w5.alloc (.cells #[.int .i64 0, .int .i64 0, .int .i64 0, .int .i64 0, .slice none 0 0] 24)) := (hb04.trans (hb5.mono (by omega))).alloc (by omega) _
    have hz6 := hb06.size
    clear hb5 hb04
    go_wp2_with fail
    refine (tDecodeHint_any s _ hs).mono ?_
    rintro e w7 ⟨⟨v, hv, rfl, ho, hg, ht⟩ | ⟨_, rfl⟩, hb7⟩
    · have hz7 := hb7.size
      obtain ⟨ho', hc', rfl⟩ := owns_slice ho.row
      have hb07 : Below w.heap.size w (w7.alloc (.cells #[.slice ho' hv.length hc'] 31)) := (hb06.trans (hb7.mono (by simpa using hz6))).alloc (by omega) _
      have hke := tEncodeHint_any _ (hdat hv) _ (OwnHint.rd ((ho.alloc (.cells #[.slice ho' hv.length hc'] 31))))
      rw [if_pos hg, ht] at hke
      clear ho hg ht
      go_wp2_with fail
      refine hke.mono ?_
      clear hke
      rintro e w8 ⟨rfl, hb8⟩
      have hb08 := hb07.trans (hb8.mono (by simp; omega))
      go_wp2
      go_ret
      exact ⟨by simp, hb08⟩
    · have hz7 := hb7.size
      have hb07 := (hb06.trans (hb7.mono (by simpa using hz6))).alloc (by omega) (.cells #[.slice none 0 0] 31)
      go_wp2
      go_ret
      exact ⟨by simp, hb07⟩

theorem Try.own : ownKnob Try.prog.godebug = none := by kernel_rfl
theorem Try.laidOut : laidOutB Try.prog = true := by kernel_rfl

set_option maxRecDepth 100000 in
theorem back_lifted (os : Os) (started : os.Started) (H : Type) (enc : TypeId × Value → H) :
    ReturnsInHanded {} Try.checked os 5 .any (Rows.backSpec.pre6 enc Try.prog Try.f5 Rows.backRow.domain false) (Rows.backSpec.post enc Try.prog Try.f5 false true false false) := by
  refine returnsInHanded_of_change_sized (C := Try.checked) Try.own started (by kernel_rfl) Try.func5
    (ChangeSpec.witness6 (enc := enc) (C := Try.checked) false ⟨#[], #[.slice none 0 0, .slice none 0 0, .string ⟨#[]⟩], []⟩ 8 (by kernel_rfl) (by kernel_rfl) (by kernel_rfl) (by kernel_rfl)) ?_
  intro W base args ds gs before hval0 hW hcnd hsz0 _
  have hval : ∀ (j : Nat) t v, Try.f5.params[j]? = some t → args[j]? = some v → Value.okWide Try.prog W .any base t v := hval0
  have hsz : (DataW.weightsEach Try.prog (Try.f5.params.toList ++ Rows.backSpec.plain.varTypes Try.prog) (ds ++ gs)).all (· ≤ reachBytes) = true := hsz0
  have hW' := hW
  obtain ⟨p, q, hA0, hV, rfl, hfz, hnd⟩ := hW
  have hA : DataW.TrodAll enc Try.prog W 0 (fun _ => true) true Try.f5.params.toList args.toList ds p := hA0
  rw [Try.params5] at hA hval hsz
  obtain ⟨v0, vs0, d0, ds0, p0, q0, hargs, rfl, rfl, h0, r0⟩ := trodAll_cons hA
  obtain ⟨v1, vs1, d1, ds1, p1, q1, rfl, rfl, rfl, h1, r1⟩ := trodAll_cons r0
  obtain ⟨v2, vs2, d2, ds2, p2, q2, rfl, rfl, rfl, h2, r2⟩ := trodAll_cons r1
  obtain ⟨rfl, rfl, rfl⟩ := trodAll_nil r2
  obtain rfl : args = #[v0, v1, v2] := by cases args; simp_all
  obtain ⟨rfl, rfl⟩ := trodVars_none hV
  have k0 := h0
  have k1 := h1
  have lt0 : ∀ x ∈ p0, x.block < W.heap.size := by obtain ⟨m, hm⟩ := k0; exact DataW.trod_lt m _ _ _ hm
  have lt1 : ∀ x ∈ p1, x.block < W.heap.size := by obtain ⟨m, hm⟩ := k1; exact DataW.trod_lt m _ _ _ hm
  have hw0 : ∀ n ∈ d0.weights Try.prog 36, n ≤ reachBytes := fun n hn => of_decide_eq_true (List.all_eq_true.1 hsz n (DataW.weights_mem_each (j := 0) rfl rfl n hn))
  have hw1 : ∀ n ∈ d1.weights Try.prog 36, n ≤ reachBytes := fun n hn => of_decide_eq_true (List.all_eq_true.1 hsz n (DataW.weights_mem_each (j := 1) rfl rfl n hn))
  obtain ⟨l0, hr0, _, hd0⟩ := open_words_arg (hval 0 36 v0 rfl rfl) h0 hw0
  obtain ⟨l1, hr1, _, hd1⟩ := open_words_arg (hval 1 36 v1 rfl rfl) h1 hw1
  obtain ⟨s, rfl, rfl, rfl, hs⟩ := open_string Try.underlying9 (hval 2 9 v2 rfl rfl) h2
  clear hA0 hval0 hsz0
  refine (back_any v0 v1 l0 l1 s W hr0 hr1 hd0 hd1 hs).mono fun e W' ⟨he, bel⟩ => ?_
  subst he
  exact ⟨_, rfl, _, _, _, [], _, [], hW', trodAll_mk1 (shut_bool Try.underlying4 _), (trodAll_cons_mk (Below.trod Try.laidOut (by kernel_rfl) (of_decide_eq_true (by kernel_rfl)) k0 bel lt0) (trodAll_cons_mk (Below.trod Try.laidOut (by kernel_rfl) (of_decide_eq_true (by kernel_rfl)) k1 bel lt1) (trodAll_cons_mk (shut_string Try.underlying9 hs) trodAll_mk0))), rfl, bel.frame _, fun h => by cases h⟩

theorem back_holds : Rows.BackSaid :=
  OpenClaim.holds_of_wide 5 Try.f5 rfl rfl rfl rfl rfl rfl rfl ⟨rfl, rfl, rfl, rfl, rfl⟩ rfl rfl rfl rfl rfl (by kernel_rfl) Try.func5 (by kernel_rfl)
    (of_decide_eq_true (by kernel_rfl)) (by unfold Func.isWrapper; first | (rw [if_pos (by decide +kernel)]; kernel_rfl) | (rw [if_neg (by decide +kernel)]; exact ⟨rfl, rfl⟩))
    (fun os started H enc _ => back_lifted os started H enc)

#print axioms back_holds
end Go.Proofs.Ytblhmeidbjigaaa
