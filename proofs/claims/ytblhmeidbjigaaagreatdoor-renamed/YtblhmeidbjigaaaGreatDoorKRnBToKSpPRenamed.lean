/- Other names for registers: twinkeep.names, twinkeep.renamed. -/
import Derived.Test.YtblhmeidbjigaaaGreatDoorRows
import Derived.WalkKit
import Derived.WalkSpells
import Derived.WalkLawsBesides
import Derived.Laws.BytesArg
import Derived.Deep.QuietTactic
import Derived.BigQuiet
import Derived.Deep.RegionHeld3
import Derived.Deep.RegionLaw
import Derived.Deep.AppendLies
import Derived.Lib.ItoaNum
import Derived.Lib.ItoaLen
import Derived.OpenShut
import Derived.Maps.AppendAt
import Derived.StillTailTactics
import Derived.Shelf.Strconv.Itoa3
import Derived.Shelf.Lay
import Derived.Ground.NamesProg
import Derived.Lib.SmallJoins
import Derived.Lib.Hide
import Derived.ProofKit
import Derived.SizedLaws
import Derived.Deep.Slices
import Derived.BigRegion
import Derived.Test.YtblhmeidbjigaaaGreatDoorVCmHToKRnARenamed

set_option linter.unusedSimpArgs false
set_option linter.unusedVariables false
namespace Go.Proofs.YtblhmeidbjigaaaGreatDoor
open Go.RowKit

theorem owns_rdI {w : World} {B : Nat} {v : Value} {l : List Int} (h : w.ownsRow B 3 1 v l.length (ints l)) : RdWords w v l := by
  obtain ⟨ao, cap, rfl⟩ := owns_slice h
  refine ⟨ao, cap, rfl, owns_le h, fun i hi => ?_⟩
  obtain ⟨b, rfl, _, hb, hc⟩ := owns_cell h rfl (i := i) (by rw [ints_length]; exact hi)
  refine ⟨b, 0, rfl, ?_⟩
  have := h.cells (g := b) hb i (.int .i64 (l.getD i 0)) (by simp [ints, List.getD, hi])
  simpa [Addr.add_lit] using this

/-- Names: arguments stay, all differ, none is beyond the last register. -/
structure Names (A : Nat) (l : List Int) : Prop where
  ids : ∀ i, i < l.length → i < A → l.getD i 0 = i
  rng : ∀ x ∈ l, 0 ≤ x ∧ x < 8
  one : l.Nodup

theorem names_nil (A : Nat) : Names A [] := ⟨(fun i h => by simp at h), (fun x h => by cases h), List.nodup_nil⟩

theorem Names.snoc {A : Nat} {l : List Int} (h : Names A l) {x : Int} (hx : x ∉ l) (h8 : 0 ≤ x ∧ x < 8) (hA : l.length < A → x = l.length) : Names A (l ++ [x]) := by
  refine ⟨fun i hi hiA => ?_, fun y hy => ?_, ?_⟩
  · by_cases e : i < l.length
    · have := h.ids i e hiA
      simp only [List.getD, List.getElem?_append_left e] at this ⊢
      exact this
    · have e2 : i = l.length := by simp at hi; omega
      subst e2
      simp [List.getD, hA hiA]
  · rw [List.mem_append, List.mem_singleton] at hy
    rcases hy with hy | rfl
    · exact h.rng y hy
    · exact h8
  · rw [List.nodup_append]
    exact ⟨h.one, by simp, fun a ha b hb e => by rw [List.mem_singleton] at hb; subst hb; subst e; exact hx ha⟩

theorem Names.arg {A : Nat} {l : List Int} (h : Names A l) (hA : l.length < A) : ((l.length : Nat) : Int) ∉ l := by
  intro hm
  obtain ⟨j, hj, e⟩ := List.getElem_of_mem hm
  have := h.ids j hj (by omega)
  simp [List.getD, hj] at this
  omega

set_option maxRecDepth 100000 in
set_option maxHeartbeats 1500000 in
theorem names_cps (A R : Nat) (a2 a3 : Int) (po : Option Addr) (pn pc : Nat) (so : Option Addr) (sn sc : Nat) (w : World) (hsw : RdInts w (.slice so sn sc) sn) (hR : R ≤ 8) (hA : A ≤ R) (Post : Ending → World → Prop)
    (hp : ∀ v l w', Hid (l.length = R) → Names A l → w'.ownsRow w.heap.size 3 1 v l.length (ints l) → Below w.heap.size w w' → Post (.returned v) w') :
    Calls Tryz.prog 30 #[.agg #[.int .i64 (A : Int), .int .i64 (R : Int), .int .i64 a2, .int .i64 a3, .slice po pn pc], .slice so sn sc] w Post := by
  obtain ⟨i0, ii, iz0, iz1, iz2⟩ := info_parts Tryz.infoInt
  obtain ⟨W, hW⟩ : ∃ W, W = (w.alloc (.cells #[.int .i64 (A : Int), .int .i64 (R : Int), .int .i64 a2, .int .i64 a3, .slice po pn pc] 33)).alloc (.cells #[.slice so sn sc, .int .i64 0] 111) := ⟨_, rfl⟩
  have b0 : Below w.heap.size w W := by subst hW; exact ((Below.refl _ _).alloc (Nat.le_refl _) _).alloc (by simp) _
  have rP0 : Row W w.heap.size 33 [.int .i64 (A : Int), .int .i64 (R : Int), .int .i64 a2, .int .i64 a3, .slice po pn pc] := by subst hW; exact Row.alloc (heap_alloc_new w _) _
  have rR0 : Row W (w.heap.size + 1) 111 [.slice so sn sc, .int .i64 0] := by subst hW; exact heap_alloc2_new w _ _
  have ro0 : ∃ rk, Rolls W (w.heap.size + 1) so sn sc rk := ⟨0, Rolls.fresh hsw b0 rR0 (by omega)⟩
  have hz0 : w.heap.size + 2 ≤ W.heap.size := by subst hW; simp
  have HP := Lib.hid hp
  have HSW := Lib.hid hsw
  have HW := Lib.hid hW
  clear hp rR0 hW hsw
  go_enter Tryz.func30, Tryz.ntmps30
  go_wp2
  rw [← HW.out]
  clear HW
  go_loopw [6, 7] (fun lv iv wr => ∃ (i : Nat) (l : List Int), i ≤ R ∧ iv = .int .i64 i ∧ Hid (l.length = i) ∧ Hid (Names A l) ∧ Row wr w.heap.size 33 [.int .i64 (A : Int), .int .i64 (R : Int), .int .i64 a2, .int .i64 a3, .slice po pn pc] ∧ (∃ rk, Rolls wr (w.heap.size + 1) so sn sc rk) ∧ wr.ownsRow (w.heap.size + 2) 3 1 lv i (ints l) ∧ Below w.heap.size w wr ∧ w.heap.size + 2 ≤ wr.heap.size)
    (fun _ iv _ => R - (intOf iv).toNat)
  case atStart => exact ⟨0, [], Nat.zero_le _, rfl, rfl, names_nil A, rP0, ro0, World.ownsRow_nil _ _ _ _, b0, hz0⟩
  case round =>
    clear rP0 ro0 b0 hz0
    rename World => wi
    obtain ⟨i, l, hi, rfl, hil, hn, rP, ro, lown, bel, hz⟩ := hrel
    obtain ⟨lo, lc, rfl⟩ := owns_slice lown
    have p1 := rP.cell (i := 1) rfl
    by_cases hiR : i < R
    · have p0 := rP.cell (i := 0) rfl
      by_cases hiA : i < A
      · have c1 : ¬ ((A : Int) ≤ (i : Int)) := by omega
        have HN : Hid (Names A (l ++ [(i : Int)])) := hn.out.snoc (by have := hn.out.arg (by rw [hil.out]; exact hiA); rw [hil.out] at this; exact this) (by omega) (fun _ => by rw [hil.out])
        go_wp2_with (at_builtin; refine wpList_append_own _ rfl _ _ 30 rfl (w.heap.size + 2) 3 i0 (.int .i64 0) 1 8 Tryz.underlying30 ii iz0 iz1 iz2 rfl (by decide) _ _ _ rfl (lown.alloc _) ⟨wi.heap.size, 0, none⟩ 1 1 [.int .i64 (i : Int)] rfl rfl ?e1 ?e2 ?e3 ?e4 ?e5 ?_)
        try (case e1 => intro j u hj; match j, hj with | 0, hj => (simp at hj; subst hj; simp [Addr.add]))
        try (case e2 => first | rfl | (intro u hu; simp at hu; subst hu; rfl))
        try (case e3 => unfold maxLen; omega)
        try (case e4 => omega)
        try (case e5 => first | omega | (simp; omega))
        intro v7 w7 hown7 hgrow7 _
        have b7 := ((Below.refl (w.heap.size + 2) wi).alloc hz (.cells #[.int .i64 (i : Int)] 3)).grown hgrow7 (by simp; omega) (fun g hg => (lown.lt g hg).1)
        have rP7 := rP.below b7 (by omega)
        have ro7 : ∃ rk, Rolls w7 (w.heap.size + 1) so sn sc rk := by obtain ⟨rk, h⟩ := ro; exact ⟨rk, h.belowB HSW.out b7 (by omega) (by omega)⟩
        have bel7 := bel.trans (b7.mono (by omega))
        have hz7 : w.heap.size + 2 ≤ w7.heap.size := Nat.le_trans hz b7.size
        have HC : Hid (ints (l ++ [(i : Int)]) = ints l ++ [.int .i64 (i : Int)]) := by show _ = _; simp [ints]
        rw [← HC.out] at hown7
        obtain ⟨lo7, lc7, rfl⟩ := owns_slice hown7
        clear hgrow7 b7 rP ro bel hz lown
        go_wp2
        go_roundw
        case rel => exact ⟨i + 1, l ++ [(i : Int)], by omega, by go_num, by show _ = _; have := hil.out; simp; exact this, HN, rP7, ro7, hown7, bel7, hz7⟩
        case measure => simp [intOf]; omega
      · have c1 : (A : Int) ≤ (i : Int) := by omega
        obtain ⟨rk, hro⟩ := ro
        have hw8 : IntKind.i64.wrap (8 - (i : Int)) = 8 - (i : Int) := by rw [IntKind.wrap_i64]; omega
        have q3 := fun P' => next_cps (w.heap.size + 1) so sn sc rk (8 - (i : Int)) wi hro (by omega) P'
        clear hro
        go_wp2_with fail
        refine q3 _ ?_
        intro x rk5 w5 hx0 hx1 hr5 hk5 hz5
        obtain ⟨xk, rfl⟩ : ∃ xk : Nat, x = (xk : Int) := ⟨x.toNat, by omega⟩
        have rPB := rP.kept hk5 (by omega)
        have roB : ∃ rk, Rolls w5 (w.heap.size + 1) so sn sc rk := ⟨_, hr5⟩
        have lownB := owns_same lown (fun g hg => hk5.block g (lown.lt g hg).2 (by have := (lown.lt g hg).1; omega))
        have belB : Below w.heap.size w w5 := bel.trans (hk5.toBelow (by omega) (fun g hg => by omega))
        have hzB : w.heap.size + 2 ≤ w5.heap.size := by rw [hz5]; exact hz
        have rdl : RdWords w5 (.slice lo l.length lc) l := owns_rdI (by rw [hil.out]; exact lownB)
        rw [hil.out] at rdl
        have q4 := fun P' => kFree_cps (.slice lo i lc) l xk w5 rdl (by rw [hil.out]; omega) (by omega) P'
        clear q3 hr5 hk5 hz5 rP lown bel hz p0 p1 rdl
        go_wp2_with fail
        refine q4 _ ?_
        intro y hy hny
        have hy7 : y ≤ 7 := by rw [hil.out] at hy; omega
        have HN : Hid (Names A (l ++ [(y : Int)])) := hn.out.snoc hny (by omega) (fun h => by rw [hil.out] at h; omega)
        clear q4 hy hny
        go_wp2_with (at_builtin; refine wpList_append_own _ rfl _ _ 30 rfl (w.heap.size + 2) 3 i0 (.int .i64 0) 1 8 Tryz.underlying30 ii iz0 iz1 iz2 rfl (by decide) _ _ _ rfl (lownB.alloc _) ⟨w5.heap.size, 0, none⟩ 1 1 [.int .i64 (y : Int)] rfl rfl ?e1B ?e2B ?e3B ?e4B ?e5B ?_)
        try (case e1B => intro j u hj; match j, hj with | 0, hj => (simp at hj; subst hj; simp [Addr.add]))
        try (case e2B => first | rfl | (intro u hu; simp at hu; subst hu; rfl))
        try (case e3B => unfold maxLen; omega)
        try (case e4B => omega)
        try (case e5B => first | omega | (simp; omega))
        intro v7 w7 hown7 hgrow7 _
        have b7 := ((Below.refl (w.heap.size + 2) w5).alloc hzB (.cells #[.int .i64 (y : Int)] 3)).grown hgrow7 (by simp; omega) (fun g hg => (lownB.lt g hg).1)
        have rP7 := rPB.below b7 (by omega)
        have ro7 : ∃ rk, Rolls w7 (w.heap.size + 1) so sn sc rk := by obtain ⟨rk, h⟩ := roB; exact ⟨rk, h.belowB HSW.out b7 (by omega) (by omega)⟩
        have bel7 := belB.trans (b7.mono (by omega))
        have hz7 : w.heap.size + 2 ≤ w7.heap.size := Nat.le_trans hzB b7.size
        have HC : Hid (ints (l ++ [(y : Int)]) = ints l ++ [.int .i64 (y : Int)]) := by show _ = _; simp [ints]
        rw [← HC.out] at hown7
        obtain ⟨lo7, lc7, rfl⟩ := owns_slice hown7
        clear hgrow7 b7 rPB roB belB hzB lownB
        go_wp2
        go_roundw
        case rel => exact ⟨i + 1, l ++ [(y : Int)], by omega, by go_num, by show _ = _; have := hil.out; simp; exact this, HN, rP7, ro7, hown7, bel7, hz7⟩
        case measure => simp [intOf]; omega
    · have hiR' : i = R := by omega
      subst hiR'
      have HF := Lib.hid (HP.out (.slice lo i lc) l wi hil hn.out (by rw [hil.out]; exact owns_base lown (by omega)) bel)
      clear HP rP ro lown bel
      go_wp2
      exact HF.out

theorem op_plainR {regs : Int} {o : OpD} (g : opGood regs 0 o = true) : (1 ≤ o.kind ∧ o.kind ≤ 13) ∧ (0 ≤ o.a ∧ o.a < regs) ∧ (o.kind ≠ 1 → 0 ≤ o.b ∧ o.b < regs) ∧ (3 ≤ o.kind ∧ o.kind ≤ 11 → 0 ≤ o.c ∧ o.c < regs) := by
  unfold opGood at g
  repeat' split at g
  all_goals (first | (simp only [Bool.and_eq_true, below, decide_eq_true_eq] at g; omega) | (cases g))

/-- The name of a register. -/
def nameOf (l : List Int) (i : Int) : Int := l.getD i.toNat 0

theorem nameOf_nat (l : List Int) (i : Nat) : nameOf l (i : Int) = l.getD i 0 := rfl

set_option maxRecDepth 100000 in
set_option maxHeartbeats 1500000 in
theorem renamed_one (kd : Int) (a : Nat) (b : Int) (c : Int) (v : Value) (l : List Int) (w : World) (hr : RdWords w v l) (ha : a < l.length) (h1 : kd = 1) (Post : Ending → World → Prop)
    (hp : ∀ w', Below w.heap.size w w' → Post (.returned (.agg #[.int .i64 kd, .int .i64 (l.getD a 0), .int .i64 b, .int .i64 c])) w') :
    Calls Tryz.prog 32 #[.agg #[.int .i64 kd, .int .i64 (a : Int), .int .i64 (b : Int), .int .i64 (c : Int)], v] w Post := by
  subst h1
  obtain ⟨ao, cap, rfl, hll, hcl⟩ := hr
  obtain ⟨W, hW⟩ : ∃ W, W = (w.alloc (.cells #[.int .i64 1, .int .i64 (a : Int), .int .i64 (b : Int), .int .i64 (c : Int)] 77)).alloc (.cells #[.int .i64 0, .int .i64 0, .int .i64 0, .int .i64 0] 77) := ⟨_, rfl⟩
  have bW : Below w.heap.size w W := by subst hW; exact ((Below.refl _ _).alloc (Nat.le_refl _) _).alloc (by simp) _
  obtain ⟨tba, toffa, ea, hca⟩ := hcl a ha
  subst ea
  have htb : tba < w.heap.size := by have := World.block_lt_of_cell? _ _ hca; simpa using this
  have hne1 : tba ≠ w.heap.size := by omega
  have hne2 : tba ≠ w.heap.size + 1 := by omega
  have hne3 : w.heap.size ≠ tba := by omega
  have hne4 : w.heap.size + 1 ≠ tba := by omega
  obtain ⟨xa, hxa⟩ : ∃ xa, xa = l.getD a 0 := ⟨_, rfl⟩
  rw [← hxa] at hca hp
  clear hxa
  have da : ∀ o1 o2, ((w.alloc o1).alloc o2).cell? ⟨tba, toffa + a, none⟩ = some (.int .i64 xa) := fun o1 o2 => cell_keep (((Below.refl _ _).alloc (Nat.le_refl _) _).alloc (by simp) _) hca
  have ia0 : (0 : Int) ≤ (a : Int) := by omega
  have ia1 : (a : Int) < (l.length : Int) := by omega
  have rO : Row W w.heap.size 77 [.int .i64 1, .int .i64 (a : Int), .int .i64 (b : Int), .int .i64 (c : Int)] := by subst hW; exact Row.alloc (heap_alloc_new w _) _
  have rA : Row W (w.heap.size + 1) 77 [.int .i64 0, .int .i64 0, .int .i64 0, .int .i64 0] := by subst hW; exact heap_alloc2_new w _ _
  have o0 := rO.cell (i := 0) rfl
  have o1 := rO.cell (i := 1) rfl
  have o2 := rO.cell (i := 2) rfl
  have o3 := rO.cell (i := 3) rfl
  have f1 := rO.frozen 1
  have f2 := rO.frozen 2
  have f3 := rO.frozen 3
  have a0 := rA.cell (i := 0) rfl
  have a1 := rA.cell (i := 1) rfl
  have a2 := rA.cell (i := 2) rfl
  have a3 := rA.cell (i := 3) rfl
  have g0 := rA.frozen 0
  have g1 := rA.frozen 1
  have g2 := rA.frozen 2
  have g3 := rA.frozen 3
  have HP := Lib.hid hp
  have HBW := Lib.hid bW
  subst hW
  clear hp hcl hca rO rA bW
  go_enter Tryz.func32, Tryz.ntmps32
  go_wp2
  exact bodyPost_ret (v := .agg #[.int .i64 1, .int .i64 xa, .int .i64 b, .int .i64 c]) (by simp [results, Tryz.results32, go_sem, a0, a1, a2, a3]) rfl (HP.out _ (by
    exact ((Below.refl _ _).alloc (Nat.le_refl _) _).alloc (by simp) _))

set_option maxRecDepth 100000 in
set_option maxHeartbeats 1500000 in
theorem renamed_two (kd : Int) (a : Nat) (b : Nat) (c : Int) (v : Value) (l : List Int) (w : World) (hr : RdWords w v l) (ha : a < l.length) (hb : b < l.length) (h1 : kd = 2) (Post : Ending → World → Prop)
    (hp : ∀ w', Below w.heap.size w w' → Post (.returned (.agg #[.int .i64 kd, .int .i64 (l.getD a 0), .int .i64 (l.getD b 0), .int .i64 c])) w') :
    Calls Tryz.prog 32 #[.agg #[.int .i64 kd, .int .i64 (a : Int), .int .i64 (b : Int), .int .i64 (c : Int)], v] w Post := by
  subst h1
  obtain ⟨ao, cap, rfl, hll, hcl⟩ := hr
  obtain ⟨W, hW⟩ : ∃ W, W = (w.alloc (.cells #[.int .i64 2, .int .i64 (a : Int), .int .i64 (b : Int), .int .i64 (c : Int)] 77)).alloc (.cells #[.int .i64 0, .int .i64 0, .int .i64 0, .int .i64 0] 77) := ⟨_, rfl⟩
  have bW : Below w.heap.size w W := by subst hW; exact ((Below.refl _ _).alloc (Nat.le_refl _) _).alloc (by simp) _
  obtain ⟨tba, toffa, ea, hca⟩ := hcl a ha
  obtain ⟨tbb, toffb, eb, hcb⟩ := hcl b hb
  rw [ea] at eb
  simp only [Option.some.injEq, Addr.mk.injEq, and_true] at eb
  obtain ⟨rfl, rfl⟩ := eb
  subst ea
  have htb : tba < w.heap.size := by have := World.block_lt_of_cell? _ _ hca; simpa using this
  have hne1 : tba ≠ w.heap.size := by omega
  have hne2 : tba ≠ w.heap.size + 1 := by omega
  have hne3 : w.heap.size ≠ tba := by omega
  have hne4 : w.heap.size + 1 ≠ tba := by omega
  obtain ⟨xa, hxa⟩ : ∃ xa, xa = l.getD a 0 := ⟨_, rfl⟩
  rw [← hxa] at hca hp
  clear hxa
  have da : ∀ o1 o2, ((w.alloc o1).alloc o2).cell? ⟨tba, toffa + a, none⟩ = some (.int .i64 xa) := fun o1 o2 => cell_keep (((Below.refl _ _).alloc (Nat.le_refl _) _).alloc (by simp) _) hca
  have ia0 : (0 : Int) ≤ (a : Int) := by omega
  have ia1 : (a : Int) < (l.length : Int) := by omega
  obtain ⟨xb, hxb⟩ : ∃ xb, xb = l.getD b 0 := ⟨_, rfl⟩
  rw [← hxb] at hcb hp
  clear hxb
  have db : ∀ o1 o2, ((w.alloc o1).alloc o2).cell? ⟨tba, toffa + b, none⟩ = some (.int .i64 xb) := fun o1 o2 => cell_keep (((Below.refl _ _).alloc (Nat.le_refl _) _).alloc (by simp) _) hcb
  have ib0 : (0 : Int) ≤ (b : Int) := by omega
  have ib1 : (b : Int) < (l.length : Int) := by omega
  have rO : Row W w.heap.size 77 [.int .i64 2, .int .i64 (a : Int), .int .i64 (b : Int), .int .i64 (c : Int)] := by subst hW; exact Row.alloc (heap_alloc_new w _) _
  have rA : Row W (w.heap.size + 1) 77 [.int .i64 0, .int .i64 0, .int .i64 0, .int .i64 0] := by subst hW; exact heap_alloc2_new w _ _
  have o0 := rO.cell (i := 0) rfl
  have o1 := rO.cell (i := 1) rfl
  have o2 := rO.cell (i := 2) rfl
  have o3 := rO.cell (i := 3) rfl
  have f1 := rO.frozen 1
  have f2 := rO.frozen 2
  have f3 := rO.frozen 3
  have a0 := rA.cell (i := 0) rfl
  have a1 := rA.cell (i := 1) rfl
  have a2 := rA.cell (i := 2) rfl
  have a3 := rA.cell (i := 3) rfl
  have g0 := rA.frozen 0
  have g1 := rA.frozen 1
  have g2 := rA.frozen 2
  have g3 := rA.frozen 3
  have HP := Lib.hid hp
  have HBW := Lib.hid bW
  subst hW
  clear hp hcl hca hcb rO rA bW
  go_enter Tryz.func32, Tryz.ntmps32
  go_wp2
  exact bodyPost_ret (v := .agg #[.int .i64 2, .int .i64 xa, .int .i64 xb, .int .i64 c]) (by simp [results, Tryz.results32, go_sem, a0, a1, a2, a3]) rfl (HP.out _ (by
    exact ((Below.refl _ _).alloc (Nat.le_refl _) _).alloc (by simp) _))

set_option maxRecDepth 100000 in
set_option maxHeartbeats 1500000 in
theorem renamed_load (kd : Int) (a : Nat) (b : Nat) (c : Int) (v : Value) (l : List Int) (w : World) (hr : RdWords w v l) (ha : a < l.length) (hb : b < l.length) (h1 : kd = 12) (Post : Ending → World → Prop)
    (hp : ∀ w', Below w.heap.size w w' → Post (.returned (.agg #[.int .i64 kd, .int .i64 (l.getD a 0), .int .i64 (l.getD b 0), .int .i64 c])) w') :
    Calls Tryz.prog 32 #[.agg #[.int .i64 kd, .int .i64 (a : Int), .int .i64 (b : Int), .int .i64 (c : Int)], v] w Post := by
  subst h1
  obtain ⟨ao, cap, rfl, hll, hcl⟩ := hr
  obtain ⟨W, hW⟩ : ∃ W, W = (w.alloc (.cells #[.int .i64 12, .int .i64 (a : Int), .int .i64 (b : Int), .int .i64 (c : Int)] 77)).alloc (.cells #[.int .i64 0, .int .i64 0, .int .i64 0, .int .i64 0] 77) := ⟨_, rfl⟩
  have bW : Below w.heap.size w W := by subst hW; exact ((Below.refl _ _).alloc (Nat.le_refl _) _).alloc (by simp) _
  obtain ⟨tba, toffa, ea, hca⟩ := hcl a ha
  obtain ⟨tbb, toffb, eb, hcb⟩ := hcl b hb
  rw [ea] at eb
  simp only [Option.some.injEq, Addr.mk.injEq, and_true] at eb
  obtain ⟨rfl, rfl⟩ := eb
  subst ea
  have htb : tba < w.heap.size := by have := World.block_lt_of_cell? _ _ hca; simpa using this
  have hne1 : tba ≠ w.heap.size := by omega
  have hne2 : tba ≠ w.heap.size + 1 := by omega
  have hne3 : w.heap.size ≠ tba := by omega
  have hne4 : w.heap.size + 1 ≠ tba := by omega
  obtain ⟨xa, hxa⟩ : ∃ xa, xa = l.getD a 0 := ⟨_, rfl⟩
  rw [← hxa] at hca hp
  clear hxa
  have da : ∀ o1 o2, ((w.alloc o1).alloc o2).cell? ⟨tba, toffa + a, none⟩ = some (.int .i64 xa) := fun o1 o2 => cell_keep (((Below.refl _ _).alloc (Nat.le_refl _) _).alloc (by simp) _) hca
  have ia0 : (0 : Int) ≤ (a : Int) := by omega
  have ia1 : (a : Int) < (l.length : Int) := by omega
  obtain ⟨xb, hxb⟩ : ∃ xb, xb = l.getD b 0 := ⟨_, rfl⟩
  rw [← hxb] at hcb hp
  clear hxb
  have db : ∀ o1 o2, ((w.alloc o1).alloc o2).cell? ⟨tba, toffa + b, none⟩ = some (.int .i64 xb) := fun o1 o2 => cell_keep (((Below.refl _ _).alloc (Nat.le_refl _) _).alloc (by simp) _) hcb
  have ib0 : (0 : Int) ≤ (b : Int) := by omega
  have ib1 : (b : Int) < (l.length : Int) := by omega
  have rO : Row W w.heap.size 77 [.int .i64 12, .int .i64 (a : Int), .int .i64 (b : Int), .int .i64 (c : Int)] := by subst hW; exact Row.alloc (heap_alloc_new w _) _
  have rA : Row W (w.heap.size + 1) 77 [.int .i64 0, .int .i64 0, .int .i64 0, .int .i64 0] := by subst hW; exact heap_alloc2_new w _ _
  have o0 := rO.cell (i := 0) rfl
  have o1 := rO.cell (i := 1) rfl
  have o2 := rO.cell (i := 2) rfl
  have o3 := rO.cell (i := 3) rfl
  have f1 := rO.frozen 1
  have f2 := rO.frozen 2
  have f3 := rO.frozen 3
  have a0 := rA.cell (i := 0) rfl
  have a1 := rA.cell (i := 1) rfl
  have a2 := rA.cell (i := 2) rfl
  have a3 := rA.cell (i := 3) rfl
  have g0 := rA.frozen 0
  have g1 := rA.frozen 1
  have g2 := rA.frozen 2
  have g3 := rA.frozen 3
  have HP := Lib.hid hp
  have HBW := Lib.hid bW
  subst hW
  clear hp hcl hca hcb rO rA bW
  go_enter Tryz.func32, Tryz.ntmps32
  go_wp2
  exact bodyPost_ret (v := .agg #[.int .i64 12, .int .i64 xa, .int .i64 xb, .int .i64 c]) (by simp [results, Tryz.results32, go_sem, a0, a1, a2, a3]) rfl (HP.out _ (by
    exact ((Below.refl _ _).alloc (Nat.le_refl _) _).alloc (by simp) _))

set_option maxRecDepth 100000 in
set_option maxHeartbeats 1500000 in
theorem renamed_store (kd : Int) (a : Nat) (b : Nat) (c : Int) (v : Value) (l : List Int) (w : World) (hr : RdWords w v l) (ha : a < l.length) (hb : b < l.length) (h1 : kd = 13) (Post : Ending → World → Prop)
    (hp : ∀ w', Below w.heap.size w w' → Post (.returned (.agg #[.int .i64 kd, .int .i64 (l.getD a 0), .int .i64 (l.getD b 0), .int .i64 c])) w') :
    Calls Tryz.prog 32 #[.agg #[.int .i64 kd, .int .i64 (a : Int), .int .i64 (b : Int), .int .i64 (c : Int)], v] w Post := by
  subst h1
  obtain ⟨ao, cap, rfl, hll, hcl⟩ := hr
  obtain ⟨W, hW⟩ : ∃ W, W = (w.alloc (.cells #[.int .i64 13, .int .i64 (a : Int), .int .i64 (b : Int), .int .i64 (c : Int)] 77)).alloc (.cells #[.int .i64 0, .int .i64 0, .int .i64 0, .int .i64 0] 77) := ⟨_, rfl⟩
  have bW : Below w.heap.size w W := by subst hW; exact ((Below.refl _ _).alloc (Nat.le_refl _) _).alloc (by simp) _
  obtain ⟨tba, toffa, ea, hca⟩ := hcl a ha
  obtain ⟨tbb, toffb, eb, hcb⟩ := hcl b hb
  rw [ea] at eb
  simp only [Option.some.injEq, Addr.mk.injEq, and_true] at eb
  obtain ⟨rfl, rfl⟩ := eb
  subst ea
  have htb : tba < w.heap.size := by have := World.block_lt_of_cell? _ _ hca; simpa using this
  have hne1 : tba ≠ w.heap.size := by omega
  have hne2 : tba ≠ w.heap.size + 1 := by omega
  have hne3 : w.heap.size ≠ tba := by omega
  have hne4 : w.heap.size + 1 ≠ tba := by omega
  obtain ⟨xa, hxa⟩ : ∃ xa, xa = l.getD a 0 := ⟨_, rfl⟩
  rw [← hxa] at hca hp
  clear hxa
  have da : ∀ o1 o2, ((w.alloc o1).alloc o2).cell? ⟨tba, toffa + a, none⟩ = some (.int .i64 xa) := fun o1 o2 => cell_keep (((Below.refl _ _).alloc (Nat.le_refl _) _).alloc (by simp) _) hca
  have ia0 : (0 : Int) ≤ (a : Int) := by omega
  have ia1 : (a : Int) < (l.length : Int) := by omega
  obtain ⟨xb, hxb⟩ : ∃ xb, xb = l.getD b 0 := ⟨_, rfl⟩
  rw [← hxb] at hcb hp
  clear hxb
  have db : ∀ o1 o2, ((w.alloc o1).alloc o2).cell? ⟨tba, toffa + b, none⟩ = some (.int .i64 xb) := fun o1 o2 => cell_keep (((Below.refl _ _).alloc (Nat.le_refl _) _).alloc (by simp) _) hcb
  have ib0 : (0 : Int) ≤ (b : Int) := by omega
  have ib1 : (b : Int) < (l.length : Int) := by omega
  have rO : Row W w.heap.size 77 [.int .i64 13, .int .i64 (a : Int), .int .i64 (b : Int), .int .i64 (c : Int)] := by subst hW; exact Row.alloc (heap_alloc_new w _) _
  have rA : Row W (w.heap.size + 1) 77 [.int .i64 0, .int .i64 0, .int .i64 0, .int .i64 0] := by subst hW; exact heap_alloc2_new w _ _
  have o0 := rO.cell (i := 0) rfl
  have o1 := rO.cell (i := 1) rfl
  have o2 := rO.cell (i := 2) rfl
  have o3 := rO.cell (i := 3) rfl
  have f1 := rO.frozen 1
  have f2 := rO.frozen 2
  have f3 := rO.frozen 3
  have a0 := rA.cell (i := 0) rfl
  have a1 := rA.cell (i := 1) rfl
  have a2 := rA.cell (i := 2) rfl
  have a3 := rA.cell (i := 3) rfl
  have g0 := rA.frozen 0
  have g1 := rA.frozen 1
  have g2 := rA.frozen 2
  have g3 := rA.frozen 3
  have HP := Lib.hid hp
  have HBW := Lib.hid bW
  subst hW
  clear hp hcl hca hcb rO rA bW
  go_enter Tryz.func32, Tryz.ntmps32
  go_wp2
  exact bodyPost_ret (v := .agg #[.int .i64 13, .int .i64 xa, .int .i64 xb, .int .i64 c]) (by simp [results, Tryz.results32, go_sem, a0, a1, a2, a3]) rfl (HP.out _ (by
    exact ((Below.refl _ _).alloc (Nat.le_refl _) _).alloc (by simp) _))

set_option maxRecDepth 100000 in
set_option maxHeartbeats 1500000 in
theorem renamed_rest (kd : Int) (a : Nat) (b : Nat) (c : Nat) (v : Value) (l : List Int) (w : World) (hr : RdWords w v l) (ha : a < l.length) (hb : b < l.length) (hc : c < l.length) (h1 : kd ≠ 1 ∧ kd ≠ 2 ∧ kd ≠ 12 ∧ kd ≠ 13) (Post : Ending → World → Prop)
    (hp : ∀ w', Below w.heap.size w w' → Post (.returned (.agg #[.int .i64 kd, .int .i64 (l.getD a 0), .int .i64 (l.getD b 0), .int .i64 (l.getD c 0)])) w') :
    Calls Tryz.prog 32 #[.agg #[.int .i64 kd, .int .i64 (a : Int), .int .i64 (b : Int), .int .i64 (c : Int)], v] w Post := by
  have n1 : (kd == 1) = false := by simp [h1.1]
  have n2 : (kd == 2) = false := by simp [h1.2.1]
  have n12 : (kd == 12) = false := by simp [h1.2.2.1]
  have n13 : (kd == 13) = false := by simp [h1.2.2.2]
  clear h1
  obtain ⟨ao, cap, rfl, hll, hcl⟩ := hr
  obtain ⟨W, hW⟩ : ∃ W, W = (w.alloc (.cells #[.int .i64 kd, .int .i64 (a : Int), .int .i64 (b : Int), .int .i64 (c : Int)] 77)).alloc (.cells #[.int .i64 0, .int .i64 0, .int .i64 0, .int .i64 0] 77) := ⟨_, rfl⟩
  have bW : Below w.heap.size w W := by subst hW; exact ((Below.refl _ _).alloc (Nat.le_refl _) _).alloc (by simp) _
  obtain ⟨tba, toffa, ea, hca⟩ := hcl a ha
  obtain ⟨tbb, toffb, eb, hcb⟩ := hcl b hb
  obtain ⟨tbc, toffc, ec, hcc⟩ := hcl c hc
  rw [ea] at eb
  simp only [Option.some.injEq, Addr.mk.injEq, and_true] at eb
  obtain ⟨rfl, rfl⟩ := eb
  rw [ea] at ec
  simp only [Option.some.injEq, Addr.mk.injEq, and_true] at ec
  obtain ⟨rfl, rfl⟩ := ec
  subst ea
  have htb : tba < w.heap.size := by have := World.block_lt_of_cell? _ _ hca; simpa using this
  have hne1 : tba ≠ w.heap.size := by omega
  have hne2 : tba ≠ w.heap.size + 1 := by omega
  have hne3 : w.heap.size ≠ tba := by omega
  have hne4 : w.heap.size + 1 ≠ tba := by omega
  obtain ⟨xa, hxa⟩ : ∃ xa, xa = l.getD a 0 := ⟨_, rfl⟩
  rw [← hxa] at hca hp
  clear hxa
  have da : ∀ o1 o2, ((w.alloc o1).alloc o2).cell? ⟨tba, toffa + a, none⟩ = some (.int .i64 xa) := fun o1 o2 => cell_keep (((Below.refl _ _).alloc (Nat.le_refl _) _).alloc (by simp) _) hca
  have ia0 : (0 : Int) ≤ (a : Int) := by omega
  have ia1 : (a : Int) < (l.length : Int) := by omega
  obtain ⟨xb, hxb⟩ : ∃ xb, xb = l.getD b 0 := ⟨_, rfl⟩
  rw [← hxb] at hcb hp
  clear hxb
  have db : ∀ o1 o2, ((w.alloc o1).alloc o2).cell? ⟨tba, toffa + b, none⟩ = some (.int .i64 xb) := fun o1 o2 => cell_keep (((Below.refl _ _).alloc (Nat.le_refl _) _).alloc (by simp) _) hcb
  have ib0 : (0 : Int) ≤ (b : Int) := by omega
  have ib1 : (b : Int) < (l.length : Int) := by omega
  obtain ⟨xc, hxc⟩ : ∃ xc, xc = l.getD c 0 := ⟨_, rfl⟩
  rw [← hxc] at hcc hp
  clear hxc
  have dc : ∀ o1 o2, ((w.alloc o1).alloc o2).cell? ⟨tba, toffa + c, none⟩ = some (.int .i64 xc) := fun o1 o2 => cell_keep (((Below.refl _ _).alloc (Nat.le_refl _) _).alloc (by simp) _) hcc
  have ic0 : (0 : Int) ≤ (c : Int) := by omega
  have ic1 : (c : Int) < (l.length : Int) := by omega
  have rO : Row W w.heap.size 77 [.int .i64 kd, .int .i64 (a : Int), .int .i64 (b : Int), .int .i64 (c : Int)] := by subst hW; exact Row.alloc (heap_alloc_new w _) _
  have rA : Row W (w.heap.size + 1) 77 [.int .i64 0, .int .i64 0, .int .i64 0, .int .i64 0] := by subst hW; exact heap_alloc2_new w _ _
  have o0 := rO.cell (i := 0) rfl
  have o1 := rO.cell (i := 1) rfl
  have o2 := rO.cell (i := 2) rfl
  have o3 := rO.cell (i := 3) rfl
  have f1 := rO.frozen 1
  have f2 := rO.frozen 2
  have f3 := rO.frozen 3
  have a0 := rA.cell (i := 0) rfl
  have a1 := rA.cell (i := 1) rfl
  have a2 := rA.cell (i := 2) rfl
  have a3 := rA.cell (i := 3) rfl
  have g0 := rA.frozen 0
  have g1 := rA.frozen 1
  have g2 := rA.frozen 2
  have g3 := rA.frozen 3
  have HP := Lib.hid hp
  have HBW := Lib.hid bW
  subst hW
  clear hp hcl hca hcb hcc rO rA bW
  go_enter Tryz.func32, Tryz.ntmps32
  go_wp2
  exact bodyPost_ret (v := .agg #[.int .i64 kd, .int .i64 xa, .int .i64 xb, .int .i64 xc]) (by simp [results, Tryz.results32, go_sem, a0, a1, a2, a3]) rfl (HP.out _ (by
    exact ((Below.refl _ _).alloc (Nat.le_refl _) _).alloc (by simp) _))

theorem renamed_cps (k a b c : Int) (v : Value) (l : List Int) (w : World) (hr : RdWords w v l) (g : opGood (l.length : Nat) 0 ⟨k, a, b, c⟩ = true) (Post : Ending → World → Prop)
    (hp : ∀ w', Below w.heap.size w w' → Post (.returned (.agg #[.int .i64 (renOp (nameOf l) ⟨k, a, b, c⟩).kind, .int .i64 (renOp (nameOf l) ⟨k, a, b, c⟩).a, .int .i64 (renOp (nameOf l) ⟨k, a, b, c⟩).b, .int .i64 (renOp (nameOf l) ⟨k, a, b, c⟩).c])) w') :
    Calls Tryz.prog 32 #[.agg #[.int .i64 k, .int .i64 a, .int .i64 b, .int .i64 c], v] w Post := by
  obtain ⟨gk, ⟨ga0, ga1⟩, gb, gc⟩ := op_plainR g
  obtain ⟨a', rfl⟩ : ∃ a' : Nat, a = (a' : Int) := ⟨a.toNat, by simp only at ga0; omega⟩
  have ha : a' < l.length := by simp only at ga1; omega
  simp only at gb gc gk
  by_cases h1 : k = 1
  · refine renamed_one k a' b c v l w hr ha h1 Post ?_
    have e : renOp (nameOf l) ⟨k, a', b, c⟩ = ⟨k, l.getD a' 0, b, c⟩ := by unfold renOp; rw [if_pos h1]; rfl
    rw [e] at hp
    exact hp
  obtain ⟨b', rfl⟩ : ∃ b' : Nat, b = (b' : Int) := ⟨b.toNat, by have := gb h1; omega⟩
  have hb : b' < l.length := by have := gb h1; omega
  by_cases h2 : k = 2 ∨ k = 12 ∨ k = 13
  · have e : renOp (nameOf l) ⟨k, a', b', c⟩ = ⟨k, l.getD a' 0, l.getD b' 0, c⟩ := by unfold renOp; rw [if_neg h1, if_pos h2]; rfl
    rw [e] at hp
    rcases h2 with h2 | h2 | h2
    · exact renamed_two k a' b' c v l w hr ha hb h2 Post hp
    · exact renamed_load k a' b' c v l w hr ha hb h2 Post hp
    · exact renamed_store k a' b' c v l w hr ha hb h2 Post hp
  · have hkr : 3 ≤ k ∧ k ≤ 11 := by omega
    obtain ⟨c', rfl⟩ : ∃ c' : Nat, c = (c' : Int) := ⟨c.toNat, by have := gc hkr; omega⟩
    have hc : c' < l.length := by have := gc hkr; omega
    have e : renOp (nameOf l) ⟨k, a', b', c'⟩ = ⟨k, l.getD a' 0, l.getD b' 0, l.getD c' 0⟩ := by unfold renOp; rw [if_neg h1, if_neg h2]; rfl
    rw [e] at hp
    exact renamed_rest k a' b' c' v l w hr ha hb hc ⟨h1, by omega, by omega, by omega⟩ Post hp

end Go.Proofs.YtblhmeidbjigaaaGreatDoor

/- Operations that change over; pure. -/
set_option linter.unusedSimpArgs false
set_option linter.unusedVariables false
namespace Go.Proofs.YtblhmeidbjigaaaGreatDoor
open Go.RowKit

theorem bops_set {m : List BlockD} {b : Nat} (hb : b < m.length) (B : BlockD) (c : Nat) : bops (m.set b B) c = if c = b then B.ops else bops m c := by
  unfold bops
  by_cases h : c = b
  · subst h; simp [List.getD, hb]
  · rw [if_neg h]; simp [List.getD, List.getElem?_set_ne (fun e => h e.symm)]

theorem bfin_set {m : List BlockD} {b : Nat} (hb : b < m.length) (B : BlockD) (c : Nat) : bfin (m.set b B) c = if c = b then B.fin else bfin m c := by
  unfold bfin
  by_cases h : c = b
  · subst h; simp [List.getD, hb]
  · rw [if_neg h]; simp [List.getD, List.getElem?_set_ne (fun e => h e.symm)]

theorem good_at {a0 a1 a2 a3 : Int} {m : List BlockD} (g : progGood ⟨a0, a1, a2, a3, m⟩ = true) {b : Nat} (hb : b < m.length) : blockGood a1 a3 m.length ⟨bops m b, bfin m b⟩ = true :=
  progGood_block g (m.getD b bz) (getD_mem' hb)

end Go.Proofs.YtblhmeidbjigaaaGreatDoor

/- A program with lists of its own (twinkeep.clone). -/
set_option linter.unusedSimpArgs false
set_option linter.unusedVariables false
namespace Go.Proofs.YtblhmeidbjigaaaGreatDoor
open Go.RowKit

theorem step_append_own {P : Program} {ops : Array Oper} {o : Oper} {a : Act} {w : World} {K : Act → World → Prop} {Q : Exit → Act → World → Prop} {E : Prop} (hg : o.guard = none) (s x : Operand) (t : TypeId)
    (ho : o.op = .call { callee := .builtin .append, args := #[s, x], argTypes := #[t, t] })
    (base : Nat) (e : TypeId) (i : TypeInfo) (z : Value) (size bytes : Nat) (ht : P.underlying t = some (.slice e)) (hi : P.info? e = some i) (hz : i.zero = some z)
    (hsize : i.size = size) (hby : i.bytes = bytes) (hzs : z.cells.size = size) (hsz : 0 < size)
    (v : Value) (n : Nat) (xs : List Value) (hs : a.eval s = v) (hown : w.ownsRow base e size v n xs)
    (ad : Addr) (m c : Nat) (news : List Value) (hx : a.eval x = .slice (some ad) m c) (hl : news.length = m * size) (hnews : ∀ j u, news[j]? = some u → w.cell? (ad.add j) = some u) (h1 : ∀ u ∈ news, u.oneCell' = true)
    (h63 : n + m ≤ maxLen) (hbytes : (n + m) * bytes ≤ 140737488355328) (hbase : base ≤ w.heap.size)
    (h : ∀ v' w', w'.ownsRow base e size v' (n + m) (xs ++ news) → w.grownBy w' v.ownBlock → (v' = .slice none 0 0 ↔ v = .slice none 0 0 ∧ m = 0) → K (a.put o.dst v') w') :
    if Region.wanted o (yielded ops a.tmps) = true then Oper.wp P o a w K Q else E := by
  have hw : Region.wanted o (yielded ops a.tmps) = true := by simp [Region.wanted, hg]
  rw [if_pos hw]
  exact wp_append_own w s x t ho base e i z size bytes ht hi hz hsize hby hzs hsz v n xs hs hown ad m c news hx hl hnews h1 h63 hbytes hbase h

theorem take_opsD {l : List OpD} {i : Nat} (h : i < l.length) : l.take (i + 1) = l.take i ++ [⟨okind l i, oa l i, ob l i, oc l i⟩] := take_getD l oz i h
theorem take_blksD {l : List BlockD} {i : Nat} (h : i < l.length) : l.take (i + 1) = l.take i ++ [⟨bops l i, ⟨bek l i, ber l i, bex l i, bey l i⟩⟩] := take_getD l bz i h

theorem bdat_snoc (bv : List (BlockD × Value)) (x : BlockD) (v : Value) : bdat (bv ++ [(x, v)]) = bdat bv ++ [x] := by simp [bdat]

set_option maxRecDepth 100000 in
set_option maxHeartbeats 8000000 in
theorem clone_cps (a0 a1 a2 a3 : Int) (po : Option Addr) (pc : Nat) (l : List BlockD) (w : World) (hr : RdBlocks w (.slice po l.length pc) l) (hl : l.length ≤ 6) (hops : ∀ b, b < l.length → (bops l b).length ≤ 12) (Post : Ending → World → Prop)
    (hp : ∀ v bv w', Hid (bdat bv = l) → OwnBlocks w' w.heap.size v bv → Below w.heap.size w w' → Post (.returned (.agg #[.int .i64 a0, .int .i64 a1, .int .i64 a2, .int .i64 a3, v])) w') :
    Calls Tryz.prog 31 #[.agg #[.int .i64 a0, .int .i64 a1, .int .i64 a2, .int .i64 a3, .slice po l.length pc]] w Post := by
  obtain ⟨i0, ii, iz0, iz1, iz2⟩ := info_parts Tryz.infoBlk
  obtain ⟨j0, ji, jz0, jz1, jz2⟩ := info_parts Tryz.infoOp
  obtain ⟨po', pc', e0, hll, hcc⟩ := hr
  simp only [Value.slice.injEq, true_and] at e0
  obtain ⟨rfl, rfl⟩ := e0
  obtain ⟨A, hA⟩ : ∃ A, A = ((w.alloc (.cells #[.int .i64 a0, .int .i64 a1, .int .i64 a2, .int .i64 a3, .slice po l.length pc] 33)).alloc (.cells #[.int .i64 0, .int .i64 0, .int .i64 0, .int .i64 0, .slice none 0 0] 33)).alloc (.cells #[.int .i64 a0, .int .i64 a1, .int .i64 a2, .int .i64 a3, .slice none 0 0] 33) := ⟨_, rfl⟩
  have rP : Row A w.heap.size 33 [.int .i64 a0, .int .i64 a1, .int .i64 a2, .int .i64 a3, .slice po l.length pc] := by subst hA; exact Row.alloc (Row.alloc (heap_alloc_new w _) _) _
  have rZ : Row A (w.heap.size + 1) 33 [.int .i64 0, .int .i64 0, .int .i64 0, .int .i64 0, .slice none 0 0] := by subst hA; exact Row.alloc (heap_alloc2_new w _ _) _
  have rQ : Row A (w.heap.size + 2) 33 [.int .i64 a0, .int .i64 a1, .int .i64 a2, .int .i64 a3, .slice none 0 0] := by
    subst hA
    have q := heap_alloc2_new (w.alloc (.cells #[.int .i64 a0, .int .i64 a1, .int .i64 a2, .int .i64 a3, .slice po l.length pc] 33)) (.cells #[.int .i64 0, .int .i64 0, .int .i64 0, .int .i64 0, .slice none 0 0] 33) (.cells #[.int .i64 a0, .int .i64 a1, .int .i64 a2, .int .i64 a3, .slice none 0 0] 33)
    simp only [World.size_alloc] at q
    exact q
  have ke : Keep (fun _ => False) w A := by subst hA; exact (((Keep.refl _ _).alloc _).alloc _).alloc _
  have hz : w.heap.size + 3 ≤ A.heap.size := by subst hA; simp
  have HA := Lib.hid hA
  clear hA
  go_enter Tryz.func31, Tryz.ntmps31
  go_wp2
  rw [← HA.out]
  clear HA
  go_loopw [4] (fun i wr => ∃ (j : Nat) (v : Value) (bv : List (BlockD × Value)), j ≤ l.length ∧ i = .int .i64 j ∧ Hid (bv.length = j) ∧ Hid (bdat bv = l.take j) ∧ Row wr w.heap.size 33 [.int .i64 a0, .int .i64 a1, .int .i64 a2, .int .i64 a3, .slice po l.length pc] ∧ Row wr (w.heap.size + 1) 33 [.int .i64 0, .int .i64 0, .int .i64 0, .int .i64 0, .slice none 0 0] ∧ Row wr (w.heap.size + 2) 33 [.int .i64 a0, .int .i64 a1, .int .i64 a2, .int .i64 a3, v] ∧
      OwnBlocks wr (w.heap.size + 3) v bv ∧ Keep (fun _ => False) w wr ∧ w.heap.size + 3 ≤ wr.heap.size)
    (fun i _ => l.length - (intOf i).toNat)
  case atStart => exact ⟨0, .slice none 0 0, [], Nat.zero_le _, rfl, rfl, rfl, rP, rZ, rQ, ownBlocks_nil _ _, ke, hz⟩
  case round =>
    clear rP rZ rQ ke hz A
    rename World => w1
    obtain ⟨j, v, bv, hj, rfl, hvl, hbd, rP, rZ, rQ, own, ke, hz⟩ := hrel
    obtain ⟨bo, bc, rfl⟩ := owns_slice own.row
    have c4 := rP.cell (i := 4) rfl
    by_cases hlt : j < l.length
    · obtain ⟨bb, off, sv, rfl, y0, y1, y2, y3, y4, hro⟩ := hcc j hlt
      obtain ⟨so, sc, rfl, hol, hoc⟩ := id hro
      have kb : Below w.heap.size w w1 := ke.toBelow (Nat.le_refl _) (fun g hg => hg.elim)
      have z0 := cell_keep kb y0
      have z1 := cell_keep kb y1
      have z2 := cell_keep kb y2
      have z3 := cell_keep kb y3
      have z4 := cell_keep kb y4
      have hn12 := hops j hlt
      have HS : Hid (l.take (j + 1) = l.take j ++ [⟨bops l j, ⟨bek l j, ber l j, bex l j, bey l j⟩⟩]) := take_blksD hlt
      have hji : (0 : Int) ≤ (j : Int) := by omega
      have hjj : (j : Int) < (l.length : Int) := by omega
      generalize bek l j = ek at *
      generalize ber l j = er at *
      generalize bex l j = ex at *
      generalize bey l j = ey at *
      generalize bops l j = os at *
      have rX1 : Row (w1.alloc (.cells #[.slice none 0 0, .int .i64 ek, .int .i64 er, .int .i64 ex, .int .i64 ey] 40)) w1.heap.size 40 [.slice none 0 0, .int .i64 ek, .int .i64 er, .int .i64 ex, .int .i64 ey] := heap_alloc_new w1 _
      have keX : Keep (fun _ => False) w1 (w1.alloc (.cells #[.slice none 0 0, .int .i64 ek, .int .i64 er, .int .i64 ex, .int .i64 ey] 40)) := (Keep.refl _ _).alloc _
      have w1z : w1.heap.size + 1 ≤ (w1.alloc (.cells #[.slice none 0 0, .int .i64 ek, .int .i64 er, .int .i64 ex, .int .i64 ey] 40)).heap.size := by simp
      clear y1 y2 y3 y4 hcc
      go_wp2
      go_loopw [6] (fun i wi => ∃ (p : Nat) (sv : Value), p ≤ os.length ∧ i = .int .i64 p ∧ Row wi w1.heap.size 40 [sv, .int .i64 ek, .int .i64 er, .int .i64 ex, .int .i64 ey] ∧ wi.ownsRow (w1.heap.size + 1) 77 4 sv p (opCells (os.take p)) ∧
          Keep (fun _ => False) w1 wi ∧ w1.heap.size + 1 ≤ wi.heap.size)
        (fun i _ => os.length - (intOf i).toNat)
      case atStart => exact ⟨0, _, by omega, rfl, rX1, World.ownsRow_nil _ _ _ _, keX, w1z⟩
      case round =>
        clear rX1 keX w1z c4 z0 z1 z2 z3 z4
        obtain ⟨p, sv, hpp, rfl, rX, pown, kei, hzi⟩ := hrel
        obtain ⟨xo, xc, rfl⟩ := owns_slice pown
        have rP2 := rP.kept kei (fun h => h)
        have kb2 : Below w.heap.size w wr := kb.trans ((kei.toBelow (Nat.le_refl _) (fun g hg => hg.elim)).mono kb.size)
        have d4 := rP2.cell (i := 4) rfl
        have t0 := cell_keep kb2 y0
        by_cases hp16 : p < os.length
        · obtain ⟨b2, off2, rfl, e0, e1, e2, e3⟩ := hoc p hp16
          have a0d := rX.cell (i := 0) rfl
          have a0f : ∀ o, (wr.alloc o).cell? ⟨w1.heap.size, 0, none⟩ = some (.slice xo p xc) := fun o => (rX.alloc o).cell (i := 0) rfl
          have g0 := cell_keep kb2 e0
          have g1 := cell_keep kb2 e1
          have g2 := cell_keep kb2 e2
          have g3 := cell_keep kb2 e3
          have hpi : (0 : Int) ≤ (p : Int) := by omega
          have hpj : (p : Int) < (os.length : Int) := by omega
          have HT : Hid (opCells (os.take (p + 1)) = opCells (os.take p) ++ [.int .i64 (okind os p), .int .i64 (oa os p), .int .i64 (ob os p), .int .i64 (oc os p)]) := by show _ = _; rw [take_opsD hp16, opCells_snoc]
          clear e0 e1 e2 e3 hoc rP2
          generalize okind os p = o0 at *
          generalize oa os p = o1 at *
          generalize ob os p = o2 at *
          generalize oc os p = o3 at *
          go_wp2
          go_region_law (refine step_append_own rfl (.tmp 35) (.tmp 45) 38 rfl (w1.heap.size + 1) 77 j0 (.agg #[.int .i64 0, .int .i64 0, .int .i64 0, .int .i64 0]) 4 32 Tryz.underlying38 ji jz0 jz1 jz2 rfl (by decide) (.slice xo p xc) p (opCells (os.take p)) (by first | rfl | simp [Act.eval, Act.put]) (owns_below (pown.alloc _) ((Below.refl _ _).drew) (Nat.le_refl _)) ⟨wr.heap.size, 0, none⟩ 1 1 [.int .i64 o0, .int .i64 o1, .int .i64 o2, .int .i64 o3] (by first | rfl | simp [Act.eval, Act.put]) rfl (by intro j u hj; exact four_new wr (.int .i64 o0) (.int .i64 o1) (.int .i64 o2) (.int .i64 o3) 77 j u hj) four_one (by unfold maxLen; omega) (by omega) (by first | omega | (simp; omega)) ?_; intro v' w5 hown5 hgrow5 _; rw [← HT.out] at hown5; have hb5 := (((Below.refl (w1.heap.size + 1) wr).alloc hzi (.cells #[.int .i64 o0, .int .i64 o1, .int .i64 o2, .int .i64 o3] 77)).drew).grown hgrow5 (by simp; omega) (fun g hg => (pown.lt g hg).1); have rX5 := rX.below hb5 (by omega); have ke5 := kei.below hb5 (by omega); have hz5 := hb5.size; have y0' := rX5.cell (i := 0) rfl; have yf := rX5.frozen 0; obtain ⟨bo', bc', hvv⟩ := owns_slice hown5; subst hvv; have rX6 := rX5.set 0 (.slice bo' (p + 1) bc'); have ke6 := ke5.setCell (p := ⟨w1.heap.size, 0, none⟩) (.inr (Nat.le_refl _)) (.slice bo' (p + 1) bc'); have own6 := ownsRow_setCell_below hown5 (a := ⟨w1.heap.size, 0, none⟩) (by show w1.heap.size < w1.heap.size + 1; omega) (.slice bo' (p + 1) bc'))
          all_goals (
            clear rX5 ke5 hown5 hgrow5 hb5 rX pown kei a0d g0 g1 g2 g3 t0 d4 a0f
            go_wp2
            go_roundw
            case rel => exact ⟨p + 1, _, by omega, by go_num, rX6, own6, ke6, by simp; omega⟩
            case measure => simp [intOf]; omega)
        · obtain rfl : p = os.length := by omega
          rw [List.take_length] at pown
          have rZ2 := rZ.kept kei (fun h => h)
          have rQ2 := rQ.kept kei (fun h => h)
          have own2 := own.apartFrom kei (fun g hg => hg.elim)
          have ke2 := ke.trans kei
          have hzl : w.heap.size + 3 ≤ wr.heap.size := by omega
          have h4 := rQ2.cell (i := 4) rfl
          have x0' := rX.cell (i := 0) rfl
          have x1' := rX.cell (i := 1) rfl
          have x2' := rX.cell (i := 2) rfl
          have x3' := rX.cell (i := 3) rfl
          have x4' := rX.cell (i := 4) rfl
          have hfree : ∀ y ∈ bv, ∀ g, y.2.ownBlock = some g → (Value.slice xo os.length xc).ownBlock ≠ some g := by
            intro y hy g hg e
            have q1 := ((own.each y hy).lt g hg).2
            have q2 := (pown.lt g e).1
            omega
          have HG : Hid (bdat (bv ++ [(⟨os, ⟨ek, er, ex, ey⟩⟩, Value.slice xo os.length xc)]) = l.take (j + 1)) := by
            show _ = _
            rw [bdat_snoc, hbd.out, HS.out]
          have pown2 := owns_base pown (show w.heap.size + 3 ≤ _ by omega)
          clear rP rZ rQ own ke kei pown hbd rX hoc kb kb2 y0
          go_wp2_with (at_builtin; refine wpList_append_own _ rfl _ _ 31 rfl (w.heap.size + 3) 40 i0 (.agg #[.slice none 0 0, .int .i64 0, .int .i64 0, .int .i64 0, .int .i64 0]) 5 56 Tryz.underlying31 ii iz0 iz1 iz2 rfl (by decide) _ _ _ rfl (own2.row.alloc _) ⟨wr.heap.size, 0, none⟩ 1 1 [.slice xo os.length xc, .int .i64 ek, .int .i64 er, .int .i64 ex, .int .i64 ey] rfl rfl ?c21 five_one ?c23 ?c24 ?c25 ?_)
          try (case c21 => simpa using five_new wr _ _ _ _ _ _)
          case c23 => have := hvl.out; unfold maxLen; omega
          case c24 => have := hvl.out; omega
          case c25 => first | omega | (simp; omega)
          intro v' w7 hown' hgrow _
          have own7 : OwnBlocks w7 (w.heap.size + 3) v' (bv ++ [(⟨os, ⟨ek, er, ex, ey⟩⟩, .slice xo os.length xc)]) := (own2.alloc _).snoc (pown2.alloc _) hfree hgrow hown'
          have hb7 := (((Below.refl (w.heap.size + 3) wr).alloc hzl _).grown hgrow (by simp; omega) (fun g hg => (own2.row.lt g hg).1))
          have rP7 := rP2.below hb7 (by omega)
          have rZ7 := rZ2.below hb7 (by omega)
          have rQ7 := rQ2.below hb7 (by omega)
          have ke7 := ke2.below hb7 (by omega)
          have hz7 := hb7.size
          have y4 := rQ7.cell (i := 4) rfl
          have yf := rQ7.frozen 4
          obtain ⟨bo', bc', hv'⟩ := owns_slice own7.row
          rw [List.length_append] at hv'
          simp only [List.length_cons, List.length_nil, Nat.zero_add] at hv'
          subst hv'
          have rQ8 := rQ7.set 4 (.slice bo' (bv.length + 1) bc')
          have rP8 := rP7.unset (a := ⟨w.heap.size + 2, 4, none⟩) (by show w.heap.size ≠ w.heap.size + 2; omega) (.slice bo' (bv.length + 1) bc')
          have rZ8 := rZ7.unset (a := ⟨w.heap.size + 2, 4, none⟩) (by show w.heap.size + 1 ≠ w.heap.size + 2; omega) (.slice bo' (bv.length + 1) bc')
          have ke8 := ke7.setCell (p := ⟨w.heap.size + 2, 4, none⟩) (.inr (by show w.heap.size ≤ w.heap.size + 2; omega)) (.slice bo' (bv.length + 1) bc')
          have own8 := own7.set (a := ⟨w.heap.size + 2, 4, none⟩) (by show w.heap.size + 2 < w.heap.size + 3; omega) (.slice bo' (bv.length + 1) bc')
          clear hgrow hown' hb7 rP2 rZ2 rQ2 own2 ke2 h4 x0' x1' x2' x3' x4' rP7 rZ7 rQ7 ke7 own7 pown2 hfree d4 t0
          go_wp2
          go_roundw
          case rel => exact ⟨j + 1, _, _, by omega, by go_num, by show List.length _ = _; have := hvl.out; simp; exact this, HG, rP8, rZ8, rQ8, own8, ke8, by simp; omega⟩
          case measure => simp [intOf]; omega
    · obtain rfl : j = l.length := by omega
      rw [List.take_length] at hbd
      have b0 := rQ.cell (i := 0) rfl
      have z0 := rZ.cell (i := 0) rfl
      have f0 := rZ.frozen 0
      have b1 := rQ.cell (i := 1) rfl
      have z1 := rZ.cell (i := 1) rfl
      have f1 := rZ.frozen 1
      have b2 := rQ.cell (i := 2) rfl
      have z2 := rZ.cell (i := 2) rfl
      have f2 := rZ.frozen 2
      have b3 := rQ.cell (i := 3) rfl
      have z3 := rZ.cell (i := 3) rfl
      have f3 := rZ.frozen 3
      have b4 := rQ.cell (i := 4) rfl
      have z4 := rZ.cell (i := 4) rfl
      have f4 := rZ.frozen 4
      have HF : Hid (Post (.returned (.agg #[.int .i64 a0, .int .i64 a1, .int .i64 a2, .int .i64 a3, .slice bo bv.length bc])) (((((w1.setCell ⟨w.heap.size + 1, 0, none⟩ (.int .i64 a0)).setCell ⟨w.heap.size + 1, 1, none⟩ (.int .i64 a1)).setCell ⟨w.heap.size + 1, 2, none⟩ (.int .i64 a2)).setCell ⟨w.heap.size + 1, 3, none⟩ (.int .i64 a3)).setCell ⟨w.heap.size + 1, 4, none⟩ (.slice bo bv.length bc))) :=
        hp (.slice bo bv.length bc) bv _ hbd ((((((own.set (by simp) _).set (by simp) _).set (by simp) _).set (by simp) _).set (by simp) _).base (by omega))
          ((((((ke.setCell (.inr (by simp)) _).setCell (.inr (by simp)) _).setCell (.inr (by simp)) _).setCell (.inr (by simp)) _).setCell (.inr (by simp)) _).toBelow (Nat.le_refl _) (fun g hg => hg.elim))
      clear hp own ke rP rZ rQ hcc
      go_wp2
      exact bodyPost_ret (v := .agg #[.int .i64 a0, .int .i64 a1, .int .i64 a2, .int .i64 a3, .slice bo bv.length bc]) (by simp [results, Tryz.results31, go_sem, z0, z1, z2, z3, z4]) rfl HF.out

end Go.Proofs.YtblhmeidbjigaaaGreatDoor

/- twinkeep.Swapped: operations that have nothing to do with one another may change over. -/
set_option linter.unusedSimpArgs false
set_option linter.unusedVariables false
namespace Go.Proofs.YtblhmeidbjigaaaGreatDoor
open Go.RowKit Go.Deep

theorem rdInts_stay {w w' : World} {v : Value} {n : Nat} (h : RdInts w v n) (hb : Below w.heap.size w w') : RdInts w' v n := by
  obtain ⟨ao, cap, rfl, hl, hc⟩ := h
  exact ⟨ao, cap, rfl, hl, fun i hi => by obtain ⟨b, off, x, e, h1, h2, h3⟩ := hc i hi; exact ⟨b, off, x, e, h1, h2, cell_keep hb h3⟩⟩

theorem below_set4 {B : Nat} {w w' : World} (h : Below B w w') {g o : Nat} (hg : B ≤ g) (a b c d : Int) : Below B w (set4 w' g o a b c d) :=
  (((h.setCell (p := ⟨g, o, none⟩) hg _).setCell (p := ⟨g, o + 1, none⟩) hg _).setCell (p := ⟨g, o + 2, none⟩) hg _).setCell (p := ⟨g, o + 3, none⟩) hg _

theorem row_unset4 {w : World} {R : Nat} {t : TypeId} {xs : List Value} (h : Row w R t xs) {g o : Nat} (hg : R ≠ g) (a b c d : Int) : Row (set4 w g o a b c d) R t xs :=
  (((h.unset (a := ⟨g, o, none⟩) hg _).unset (a := ⟨g, o + 1, none⟩) hg _).unset (a := ⟨g, o + 2, none⟩) hg _).unset (a := ⟨g, o + 3, none⟩) hg _

theorem bdat_set (qv : List (BlockD × Value)) (b : Nat) (B : BlockD) (v : Value) : bdat (qv.set b (B, v)) = (bdat qv).set b B := by
  simp [bdat, List.map_set]

end Go.Proofs.YtblhmeidbjigaaaGreatDoor

/- P15: targets on other registers: pure. -/
set_option linter.unusedSimpArgs false
set_option linter.unusedVariables false
noncomputable section
namespace Go.Proofs.YtblhmeidbjigaaaGreatDoor
open Go.RowKit Classical

theorem first_plain {regs i : Int} (h0 : 0 ≤ i) (h1 : i < regs) : firstT (plainNames regs 0) i = .leaf 101 i := by
  have hl : (plainNames regs 0).length = regs.toNat := by simp [plainNames]
  have hg : (plainNames regs 0).getD i.toNat 0 = i := by
    simp [plainNames, List.getD, show i.toNat < regs.toNat by omega]
    omega
  unfold firstT
  rw [if_neg (by rw [hl]; omega), hg, if_neg (by omega)]

theorem first_cells {names : List Int} {p : Int} (h : (names.length : Int) ≤ p) : firstT names p = .leaf 103 0 := by
  unfold firstT; rw [if_pos h]

/-- At the begin of a block a place that a pair names. -/
theorem first_named {ps : List PairD} {f : Int → Int} {regs n : Int} (hi : ∀ i j, 0 ≤ i → i < regs → 0 ≤ j → j < regs → f i = f j → i = j) (h1 : ∀ x ∈ ps, 0 ≤ x.reg ∧ x.reg < regs ∧ x.place = f x.reg)
    (h2 : ∀ i, 0 ≤ i → i < regs → ⟨i, f i⟩ ∈ ps) (h3 : ∀ i, 0 ≤ i → i < regs → 0 ≤ f i ∧ f i < n) {i : Int} (i0 : 0 ≤ i) (i1 : i < regs) : firstT (namesOf ps n.toNat) (f i) = .leaf 101 i := by
  have hl : (namesOf ps n.toNat).length = n.toNat := by simp [namesOf]
  obtain ⟨f0, f1⟩ := h3 i i0 i1
  unfold firstT
  rw [if_neg (by rw [hl]; omega), namesOf_get ps f0 (by omega)]
  cases hf : ps.find? (fun x => decide (x.place = f i)) with
  | none =>
    have := List.find?_eq_none.1 hf _ (h2 i i0 i1)
    simp at this
  | some x =>
    obtain ⟨x0, x1, x2⟩ := h1 x (List.mem_of_find?_eq_some hf)
    have hpl := List.find?_some hf
    simp only [decide_eq_true_eq] at hpl
    have : x.reg = i := hi _ _ x0 x1 i0 i1 (by rw [← x2, hpl])
    simp only
    rw [this, if_neg (by omega)]

/-- The source with other registers (arguments stay). -/
theorem twin_ren {p q : ProgD} {h : List PingD} {f : Int → Int} {ps : List PairD} (gp : progGood p = true) (gq : progGood q = true) (gh : goodHint h = true) (hp0 : p.slots = 0) (hq0 : q.slots = 0) (ha : q.args = p.args) (hd : q.data = p.data) (hl : q.blocks.length = p.blocks.length)
    (sp : ∀ b, b < p.blocks.length → (bops p.blocks b).length ≤ 7)
    (hops : ∀ b, b < p.blocks.length → bops q.blocks b = (bops p.blocks b).map (renOp f))
    (ends : ∀ b, b < p.blocks.length → (bfin q.blocks b).kind = (bfin p.blocks b).kind ∧ (bfin q.blocks b).x = (bfin p.blocks b).x ∧ (bfin q.blocks b).y = (bfin p.blocks b).y ∧ ((bfin p.blocks b).kind ≠ 1 → (bfin q.blocks b).r = f (bfin p.blocks b).r))
    (hhl : h.length = p.blocks.length) (hh : ∀ b, b < p.blocks.length → hsrc h b = b ∧ hpairs h b = ps)
    (hi : ∀ i j, 0 ≤ i → i < p.regs → 0 ≤ j → j < p.regs → f i = f j → i = j) (h1 : ∀ x ∈ ps, 0 ≤ x.reg ∧ x.reg < p.regs ∧ x.place = f x.reg)
    (h2 : ∀ i, 0 ≤ i → i < p.regs → ⟨i, f i⟩ ∈ ps) (h3 : ∀ i, 0 ≤ i → i < p.regs → 0 ≤ f i ∧ f i < q.regs) (h4 : ∀ i, 0 ≤ i → i < p.args → f i = i) :
    ValAns (str (progText p)) (str (progText q)) (str (hintText h)) 0 0 := by
  have gp' := gp
  simp only [progGood, Bool.and_eq_true, decide_eq_true_eq] at gp'
  obtain ⟨⟨⟨⟨⟨p1, p2⟩, p3⟩, p4⟩, p5⟩, p6⟩ := gp'
  have gq' := gq
  simp only [progGood, Bool.and_eq_true, decide_eq_true_eq] at gq'
  obtain ⟨⟨⟨⟨⟨q1, q2⟩, q3⟩, q4⟩, q5⟩, q6⟩ := gq'
  rw [hp0] at p6
  obtain ⟨i1, i2⟩ := hh 0 (by omega)
  refine .inr ⟨p, gp, rfl, hp0, .inr ⟨q, gq, rfl, .inr ⟨⟨ha.symm, hd.symm⟩, .inr ⟨h, gh, rfl, ⟨by rw [hhl, hl], fun b hb => ?_⟩, .inr ⟨⟨by rw [i1]; rfl, fun x hx => ?_⟩, .inr ⟨rfl, rfl, fun b hb => ?_⟩⟩⟩⟩⟩⟩
  · rw [hhl] at hb
    obtain ⟨j1, j2⟩ := hh b hb
    rw [j1, j2]
    refine ⟨by omega, fun x hx => ?_⟩
    obtain ⟨x0, x1, x2⟩ := h1 x hx
    have := h3 _ x0 x1
    omega
  · rw [i2] at hx
    obtain ⟨x0, x1, x2⟩ := h1 x hx
    have := h3 _ x0 x1
    refine ⟨by omega, ?_⟩
    by_cases c : x.reg < p.args
    · exact .inl (by rw [x2, h4 _ x0 c])
    · refine .inr ⟨by omega, ?_⟩
      by_cases c2 : f x.reg < p.args
      · have e := h4 _ this.1 c2
        have := hi _ _ this.1 (by omega) x0 x1 e
        omega
      · omega
  · rw [hl] at hb
    obtain ⟨j1, j2⟩ := hh b hb
    have so : srcOps p h b = bops p.blocks b := by unfold srcOps; rw [j1]; congr 1
    obtain ⟨g12, gops, gend⟩ := blocksGood_at p6 hb
    have hn : namesOf (hpairs h b) (q.regs + q.slots).toNat = namesOf ps q.regs.toNat := by rw [j2, hq0, Int.add_zero]
    have beg : Ren f p.regs (p.regs + 0) (q.regs + 0) (firstT (plainNames p.regs 0)) (firstT (namesOf ps q.regs.toNat)) := by
      refine ⟨fun i i0 i1 => ?_, ?_⟩
      · rw [first_named hi h1 h2 h3 i0 i1, first_plain i0 i1]
      · rw [first_cells (by simp [namesOf]; omega), first_cells (by simp [plainNames]; omega)]
    obtain ⟨rn, mk⟩ := beg.fold (data := p.data) hi (fun i i0 i1 => by have := h3 i i0 i1; omega) _ gops []
    have tt : ∀ i, 0 ≤ i → i < p.regs → srcT p h b i = tgtT q h b (f i) := by
      intro i i0 i1
      unfold tgtT srcT
      rw [so, hn, hq0, hops b hb, behind_all, behind_all, rn.reg i i0 i1]
    obtain ⟨e1, e2, e3, e4⟩ := ends b hb
    refine like_wrong p6 hb hl (fun d hd => (hh d hd).1) (bigT_short (sp b hb)) (bigT_short (by rw [hops b hb, List.length_map]; exact sp b hb)) ?_ ?_ ⟨e1, e2, e3⟩ (fun hk => ?_) (fun d hd x hx => ?_)
    · rw [hn, hq0, hops b hb, hd, marks_all, marks_all, mk]
    · unfold tgtT srcT
      rw [so, hn, hq0, hops b hb, behind_all, behind_all, rn.cell, Int.add_zero]
    · have kk := end_kind gend
      have r1 := end_reg gend (by omega)
      rw [e4 hk]
      exact tt _ r1.1 r1.2
    · rw [(hh d hd).2] at hx
      obtain ⟨x0, x1, x2⟩ := h1 x hx
      rw [x2]
      exact tt _ x0 x1

end Go.Proofs.YtblhmeidbjigaaaGreatDoor

/- P15: registers kept in slots: pure. -/
set_option linter.unusedSimpArgs false
set_option linter.unusedVariables false
noncomputable section
namespace Go.Proofs.YtblhmeidbjigaaaGreatDoor
open Go.RowKit Classical

theorem renOp_a (f : Int → Int) (o : OpD) : (renOp f o).a = f o.a := by
  unfold renOp
  repeat' split
  all_goals rfl

theorem Ren.big {f : Int → Int} {regs regs' slots' : Int} (hi : ∀ i j, 0 ≤ i → i < regs → 0 ≤ j → j < regs → f i = f j → i = j) (hc : ∀ i, 0 ≤ i → i < regs → f i ≠ regs' + slots') (l : List OpD) (hg : opsGood regs 0 l = true) {w w' : Int → TD} (h : Ren f regs (regs + 0) (regs' + slots') w w') :
    bigF regs' slots' (l.map (renOp f)) w' = bigF regs 0 l w := by
  induction l generalizing w w' with
  | nil => rfl
  | cons o l ih =>
    simp only [opsGood, List.all_cons, Bool.and_eq_true] at hg
    obtain ⟨s1, s2⟩ := h.step hi hc hg.1
    have hf := good_fields hg.1
    have ha : 0 ≤ o.a ∧ o.a < regs := by omega
    have e : givesT regs' slots' w' (renOp f o) = givesT regs 0 w o := by
      rw [← step_writes, ← step_writes]
      unfold writesT
      rw [renOp_kind, renOp_a]
      by_cases k13 : o.kind = 13
      · rw [if_pos k13, if_pos k13]; exact s1.cell
      · rw [if_neg k13, if_neg k13, if_neg (by omega), if_neg (by omega)]; exact s1.reg _ ha.1 ha.2
    simp only [List.map_cons, bigF, bigOp]
    rw [e, renOp_kind, ih hg.2 s1]

end Go.Proofs.YtblhmeidbjigaaaGreatDoor

/- Registers kept in slots: what is built, and blocks whose list of operations is another one. -/
set_option linter.unusedSimpArgs false
set_option linter.unusedVariables false
namespace Go.Proofs.YtblhmeidbjigaaaGreatDoor
open Go.RowKit

/-- The operations ahead of the block's own. -/
def gl (b i : Nat) : List OpD := if b = 0 then [] else getOps i
theorem owns_kept2 {w w' : World} {base base' : Nat} {e e' : TypeId} {sz sz' : Nat} {v v' : Value} {n n' : Nat} {xs xs' : List Value} (h : w.ownsRow base e sz v n xs) (h' : w.ownsRow base' e' sz' v' n' xs') (he : e ≠ e') (hg : w.grownBy w' v'.ownBlock) : w'.ownsRow base e sz v n xs := by
  refine h.kept hg ?_
  cases hb : v.ownBlock with
  | none => exact .inl rfl
  | some g => exact .inr (fun c => owns_apart h h' he g hb c.symm)

theorem row_not_own {w : World} {R : Nat} {t : TypeId} {xs : List Value} (hr : Row w R t xs) {base : Nat} {e : TypeId} {sz : Nat} {v : Value} {n : Nat} {ys : List Value} (h : w.ownsRow base e sz v n ys) (he : t ≠ e) : v.ownBlock ≠ some R := by
  intro hb
  rcases h.2 with ⟨rfl, _⟩ | ⟨g, cap, cur, rfl, _, hg, _⟩
  · simp [Value.ownBlock] at hb
  · have e1 : g = R := by simpa [Value.ownBlock] using hb
    subst e1
    have e2 := hg.symm.trans hr
    simp at e2
    exact he e2.2.symm

theorem OwnBlocks.keptOther {w w' : World} {base base' : Nat} {v hv : Value} {bv : List (BlockD × Value)} {m : Nat} {ys : List Value} (h : OwnBlocks w base v bv) (h' : w.ownsRow base' 81 2 hv m ys) (hg : w.grownBy w' hv.ownBlock) : OwnBlocks w' base v bv :=
  ⟨owns_kept2 h.row h' (by decide) hg, fun x hx => owns_kept2 (h.each x hx) h' (by decide) hg, h.apart⟩

theorem OwnBlocks.setHint {w : World} {base : Nat} {v : Value} {bv : List (BlockD × Value)} (h : OwnBlocks w base v bv) {R i : Nat} {xs : List Value} (hr : Row w R 70 xs) (u : Value) : OwnBlocks (w.setCell ⟨R, i, none⟩ u) base v bv :=
  ⟨owns_unset h.row (row_not_own hr h.row (by decide)) u, fun x hx => owns_unset (h.each x hx) (row_not_own hr (h.each x hx) (by decide)) u, h.apart⟩

end Go.Proofs.YtblhmeidbjigaaaGreatDoor
