/- The reference's twins: wrong. -/
import Derived.Test.YtblhmeidbjigaabGreatDoorRows
import Derived.WalkKit
import Derived.WalkSpells
import Derived.WalkLawsBesides
import Derived.Laws.BytesArg
import Derived.Deep.QuietTactic
import Derived.BigQuiet
import Derived.Deep.RegionHeld3
import Derived.Lib.ItoaNum
import Derived.Lib.ItoaLen
import Derived.OpenShut
import Derived.Maps.AppendAt
import Derived.Shelf.Strconv.Itoa3
import Derived.Shelf.Lay
import Derived.Ground.NamesProg
import Derived.Lib.SmallJoins
import Derived.Lib.Hide
import Derived.StillTailTactics
import Derived.Test.YtblhmeidbjigaabGreatDoorVCmHToRTwCAll

set_option linter.unusedSimpArgs false
set_option linter.unusedVariables false
namespace Go.Proofs.YtblhmeidbjigaabGreatDoor
open Go.RowKit

section
variable {p q : ProgD} {np nq : List Int} {a b : Nat} {h : List PingD}
theorem ref_5 (c : bigT p.regs p.slots np (bops p.blocks a) = true ∨ bigT q.regs q.slots nq (bops q.blocks b) = true) : refD p q np nq a b h = 5 := by unfold refD; rw [if_pos c]
theorem ref_10 (n5 : ¬ (bigT p.regs p.slots np (bops p.blocks a) = true ∨ bigT q.regs q.slots nq (bops q.blocks b) = true)) (c : mksT p np a ≠ mksT q nq b) : refD p q np nq a b h = 10 := by unfold refD; rw [if_neg n5, if_pos c]
theorem ref_11 (n5 : ¬ (bigT p.regs p.slots np (bops p.blocks a) = true ∨ bigT q.regs q.slots nq (bops q.blocks b) = true)) (e10 : mksT p np a = mksT q nq b) (c : finT p np a (p.regs + p.slots) ≠ finT q nq b (q.regs + q.slots)) : refD p q np nq a b h = 11 := by
  unfold refD; rw [if_neg n5, if_neg (fun x => x e10), if_pos c]
theorem ref_12 (n5 : ¬ (bigT p.regs p.slots np (bops p.blocks a) = true ∨ bigT q.regs q.slots nq (bops q.blocks b) = true)) (e10 : mksT p np a = mksT q nq b) (e11 : finT p np a (p.regs + p.slots) = finT q nq b (q.regs + q.slots)) (c : (endT p np a).kind ≠ (endT q nq b).kind) : refD p q np nq a b h = 12 := by
  unfold refD; rw [if_neg n5, if_neg (fun x => x e10), if_neg (fun x => x e11), if_pos c]
theorem ref_12r (n5 : ¬ (bigT p.regs p.slots np (bops p.blocks a) = true ∨ bigT q.regs q.slots nq (bops q.blocks b) = true)) (e10 : mksT p np a = mksT q nq b) (e11 : finT p np a (p.regs + p.slots) = finT q nq b (q.regs + q.slots)) (k : (endT p np a).kind = (endT q nq b).kind) (c : ((endT p np a).kind = 2 ∨ (endT p np a).kind = 3) ∧ finT p np a (endT p np a).r ≠ finT q nq b (endT q nq b).r) : refD p q np nq a b h = 12 := by
  unfold refD; rw [if_neg n5, if_neg (fun x => x e10), if_neg (fun x => x e11), if_neg (fun x => x k), if_pos c]
theorem ref_0 (n5 : ¬ (bigT p.regs p.slots np (bops p.blocks a) = true ∨ bigT q.regs q.slots nq (bops q.blocks b) = true)) (e10 : mksT p np a = mksT q nq b) (e11 : finT p np a (p.regs + p.slots) = finT q nq b (q.regs + q.slots)) (k : (endT p np a).kind = (endT q nq b).kind) (c : finT p np a (endT p np a).r = finT q nq b (endT q nq b).r) (k3 : (endT p np a).kind = 3) : refD p q np nq a b h = 0 := by
  unfold refD; rw [if_neg n5, if_neg (fun x => x e10), if_neg (fun x => x e11), if_neg (fun x => x k), if_neg (fun x => x.2 c), if_pos k3]
theorem ref_on (n5 : ¬ (bigT p.regs p.slots np (bops p.blocks a) = true ∨ bigT q.regs q.slots nq (bops q.blocks b) = true)) (e10 : mksT p np a = mksT q nq b) (e11 : finT p np a (p.regs + p.slots) = finT q nq b (q.regs + q.slots)) (k : (endT p np a).kind = (endT q nq b).kind) (c : ¬ (((endT p np a).kind = 2 ∨ (endT p np a).kind = 3) ∧ finT p np a (endT p np a).r ≠ finT q nq b (endT q nq b).r)) (k3 : (endT p np a).kind ≠ 3) : refD p q np nq a b h = onD (finT p np a) (finT q nq b) h (endT p np a) (endT q nq b) := by
  unfold refD; rw [if_neg n5, if_neg (fun x => x e10), if_neg (fun x => x e11), if_neg (fun x => x k), if_neg c, if_neg k3]
end

/-- What wrong holds beside each other. -/
structure WrW (w W : World) (c1 c2 : List Value) (hv : Value) : Prop where
  r1 : Row W w.heap.size 164 c1
  r2 : Row W (w.heap.size + 1) 164 c2
  r3 : Row W (w.heap.size + 2) 30 [hv]
  low : Below w.heap.size w W

theorem WrW.next {w W W' : World} {c1 c2 : List Value} {hv : Value} (h : WrW w W c1 c2 hv) (hb : Below W.heap.size W W') : WrW w W' c1 c2 hv :=
  ⟨h.r1.keep hb, h.r2.keep hb, h.r3.keep hb, h.low.trans (hb.mono h.low.size)⟩

theorem endT_range {q : ProgD} {b : Nat} (hg : progGood q = true) (hb : b < q.blocks.length) (nq : List Int) :
    ((endT q nq b).kind = 1 ∨ (endT q nq b).kind = 2 → 0 ≤ (endT q nq b).x ∧ (endT q nq b).x < q.blocks.length) ∧ ((endT q nq b).kind = 2 → 0 ≤ (endT q nq b).y ∧ (endT q nq b).y < q.blocks.length) := by
  obtain ⟨⟨hk, _⟩, h1, h2⟩ := good_end hg hb
  have e1 : bek q.blocks b = (bfin q.blocks b).kind := rfl
  have e2 : bex q.blocks b = (bfin q.blocks b).x := rfl
  have e3 : bey q.blocks b = (bfin q.blocks b).y := rfl
  rw [e1] at hk h1 h2
  rw [e2] at h1 h2
  rw [e3] at h2
  unfold endT
  rcases hk with hk | hk | hk
  · rw [eff_one hk]; exact ⟨fun _ => h1 hk, fun c => by omega⟩
  · rcases Option.eq_none_or_eq_some (finT q nq b (bfin q.blocks b).r).isNum with hn | ⟨n, hn⟩
    · rw [eff_none hk hn]; exact ⟨fun _ => (h2 hk).1, fun _ => (h2 hk).2⟩
    · by_cases h0 : n = 0
      · subst h0
        rw [eff_y hk hn]; exact ⟨fun _ => (h2 hk).2, fun c => by simp at c⟩
      · rw [eff_x hk hn h0]; exact ⟨fun _ => (h2 hk).1, fun c => by simp at c⟩
  · rw [eff_three hk]; exact ⟨fun c => by omega, fun c => by omega⟩

theorem rLast_one (p : ProgD) (po no : Option Addr) (pn pc nn nc a : Nat) (np : List Int) (w : World) (h1 : VwF w p (.slice po pn pc) (.slice no nn nc) a np) (Post : Ending → World → Prop)
    (hp : ∀ e u w', e = endT p np a → ((e.kind = 1 ∧ u = .pointer none) ∨ ((e.kind = 2 ∨ e.kind = 3) ∧ (0 ≤ e.r ∧ e.r < p.regs) ∧ ∃ g, u = .pointer (some ⟨g, 0, none⟩) ∧ TreeAt w' (finT p np a e.r) g)) → Below w.heap.size w w' → Post (.returned (.tuple #[.agg #[.int .i64 e.kind, .int .i64 e.r, .int .i64 e.x, .int .i64 e.y], u])) w') :
    Calls Tryz.prog 158 #[viewV p (.slice po pn pc) a (.slice no nn nc)] w Post :=
  rLast_cps p po no pn pc nn nc a np w h1 Post (fun e w' he hk hb => hp e _ w' he (.inl ⟨hk, rfl⟩) hb) (fun e g w' he hk hr ht hb => hp e _ w' he (.inr ⟨hk, hr, g, rfl, ht⟩) hb)

set_option maxRecDepth 100000 in
set_option maxHeartbeats 4000000 in
theorem rWrong_cps (p q : ProgD) (po no qo mo : Option Addr) (pn pc nn nc qn qc mn mc a b : Nat) (np nq : List Int) (h : List PingD) (ho : Option Addr) (hn hc : Nat) (w : World) (h1 : VwF w p (.slice po pn pc) (.slice no nn nc) a np) (h2 : VwF w q (.slice qo qn qc) (.slice mo mn mc) b nq) (hh : RdHint w (.slice ho hn hc) h)
    (hin : ∀ d, d < h.length → ∀ x ∈ hpairs h d, (0 ≤ x.reg ∧ x.reg ≤ p.regs + p.slots) ∧ (0 ≤ x.place ∧ x.place ≤ q.regs + q.slots)) (hlen : h.length = q.blocks.length) (Post : Ending → World → Prop)
    (hp : ∀ n w', refD p q np nq a b h = n → Below w.heap.size w w' → Post (.returned (.int .i64 n)) w') :
    Calls Tryz.prog 125 #[viewV p (.slice po pn pc) a (.slice no nn nc), viewV q (.slice qo qn qc) b (.slice mo mn mc), .agg #[.slice ho hn hc]] w Post := by
  obtain ⟨hpr, hpa, hpd, hpsl⟩ := good_shape h1.good
  obtain ⟨hqr, hqa, hqd, hqsl⟩ := good_shape h2.good
  have hadd1 : IntKind.i64.wrap (p.regs + p.slots) = p.regs + p.slots := by rw [IntKind.wrap_i64]; omega
  have hadd2 : IntKind.i64.wrap (q.regs + q.slots) = q.regs + q.slots := by rw [IntKind.wrap_i64]; omega
  obtain ⟨A, hA⟩ : ∃ A, A = ((w.alloc (.cells #[.int .i64 p.args, .int .i64 p.regs, .int .i64 p.data, .int .i64 p.slots, .slice po pn pc, .int .i64 a, .slice no nn nc] 164)).alloc (.cells #[.int .i64 q.args, .int .i64 q.regs, .int .i64 q.data, .int .i64 q.slots, .slice qo qn qc, .int .i64 b, .slice mo mn mc] 164)).alloc (.cells #[.slice ho hn hc] 30) := ⟨_, rfl⟩
  have S0 : WrW w A [.int .i64 p.args, .int .i64 p.regs, .int .i64 p.data, .int .i64 p.slots, .slice po pn pc, .int .i64 a, .slice no nn nc] [.int .i64 q.args, .int .i64 q.regs, .int .i64 q.data, .int .i64 q.slots, .slice qo qn qc, .int .i64 b, .slice mo mn mc] (.slice ho hn hc) := by
    subst hA
    refine ⟨Row.alloc (Row.alloc (heap_alloc_new w _) _) _, Row.alloc (heap_alloc2_new w _ _) _, ?_, (((Below.refl w.heap.size w).alloc (Nat.le_refl _) _).alloc (by simp) _).alloc (by simp; omega) _⟩
    have q := heap_alloc2_new (w.alloc (.cells #[.int .i64 p.args, .int .i64 p.regs, .int .i64 p.data, .int .i64 p.slots, .slice po pn pc, .int .i64 a, .slice no nn nc] 164)) (.cells #[.int .i64 q.args, .int .i64 q.regs, .int .i64 q.data, .int .i64 q.slots, .slice qo qn qc, .int .i64 b, .slice mo mn mc] 164) (.cells #[.slice ho hn hc] 30)
    simp only [World.size_alloc] at q
    exact q
  have H1 := Lib.hid h1
  have H2 := Lib.hid h2
  have HH := Lib.hid hh
  have HIN := Lib.hid hin
  have HLEN := Lib.hid hlen
  have HP : Hid (∀ n w', refD p q np nq a b h = n → Below w.heap.size w w' → Post (.returned (.int .i64 n)) w') := hp
  have F1 := Lib.hid (h1.fine (i := p.regs + p.slots) (by omega) (Int.le_refl _))
  have F2 := Lib.hid (h2.fine (i := q.regs + q.slots) (by omega) (Int.le_refl _))
  have HEQ := Lib.hid (And.intro (good_end h2.good h2.lt) h1.lt)
  clear h1 h2 hh hin hlen hp
  have V := H1.out.keep S0.low
  have q1 := rBig_any p (.slice po pn pc) (.slice no nn nc) a np V.good V.lt V.small A V.rd
  have HS := Lib.hid S0
  rw [hA] at q1 HS
  clear V S0 hA A
  unfold viewV at q1 ⊢
  generalize hb1 : bigT p.regs p.slots np (bops p.blocks a) = big1 at q1
  have HB1 := Lib.hid hb1
  clear hb1
  go_enter Tryz.func125, Tryz.ntmps125
  go_wp2_with fail
  refine q1.mono ?_
  rintro e w1 ⟨rfl, b1⟩
  have S1 := HS.out.next b1
  clear q1 b1 HS
  have V := H2.out.keep S1.low
  have q2 := rBig_any q (.slice qo qn qc) (.slice mo mn mc) b nq V.good V.lt V.small w1 V.rd
  clear V
  unfold viewV at q2
  generalize hb2 : bigT q.regs q.slots nq (bops q.blocks b) = big2 at q2
  have HB2 := Lib.hid hb2
  clear hb2
  have c0 := S1.r1.cell (i := 0) rfl
  have d0 := S1.r2.cell (i := 0) rfl
  have c1 := S1.r1.cell (i := 1) rfl
  have d1 := S1.r2.cell (i := 1) rfl
  have c2 := S1.r1.cell (i := 2) rfl
  have d2 := S1.r2.cell (i := 2) rfl
  have c3 := S1.r1.cell (i := 3) rfl
  have d3 := S1.r2.cell (i := 3) rfl
  have c4 := S1.r1.cell (i := 4) rfl
  have d4 := S1.r2.cell (i := 4) rfl
  have c5 := S1.r1.cell (i := 5) rfl
  have d5 := S1.r2.cell (i := 5) rfl
  have c6 := S1.r1.cell (i := 6) rfl
  have d6 := S1.r2.cell (i := 6) rfl
  have HS := Lib.hid S1
  clear S1
  go_wp2_with fail
  refine q2.mono ?_
  rintro e w2 ⟨rfl, b2⟩
  have S2 := HS.out.next b2
  clear q2 b2 HS c0 c1 c2 c3 c4 c5 c6 d0 d1 d2 d3 d4 d5 d6
  cases big1 with
  | true =>
    have low := S2.low
    clear S2
    have HF := Lib.hid (HP.out 5 w2 (ref_5 (.inl HB1.out)) low)
    clear HP
    go_wp2
    exact HF.out
  | false =>
  cases big2 with
  | true =>
    have low := S2.low
    clear S2
    have HF := Lib.hid (HP.out 5 w2 (ref_5 (.inr HB2.out)) low)
    clear HP
    go_wp2
    exact HF.out
  | false =>
  have N5 : Hid (¬ (bigT p.regs p.slots np (bops p.blocks a) = true ∨ bigT q.regs q.slots nq (bops q.blocks b) = true)) := fun c => by rw [HB1.out, HB2.out] at c; simp at c
  clear HB1 HB2
  have q3 := fun P' => rAlike_cps p q po no qo mo pn pc nn nc qn qc mn mc a b np nq w2 (H1.out.keep S2.low) (H2.out.keep S2.low) P'
  unfold viewV at q3
  have c0 := S2.r1.cell (i := 0) rfl
  have d0 := S2.r2.cell (i := 0) rfl
  have c1 := S2.r1.cell (i := 1) rfl
  have d1 := S2.r2.cell (i := 1) rfl
  have c2 := S2.r1.cell (i := 2) rfl
  have d2 := S2.r2.cell (i := 2) rfl
  have c3 := S2.r1.cell (i := 3) rfl
  have d3 := S2.r2.cell (i := 3) rfl
  have c4 := S2.r1.cell (i := 4) rfl
  have d4 := S2.r2.cell (i := 4) rfl
  have c5 := S2.r1.cell (i := 5) rfl
  have d5 := S2.r2.cell (i := 5) rfl
  have c6 := S2.r1.cell (i := 6) rfl
  have d6 := S2.r2.cell (i := 6) rfl
  have HS := Lib.hid S2
  clear S2
  go_wp2_with fail
  refine q3 _ ?_
  intro z w3 hz b3
  have HZ := Lib.hid hz
  have S3 := HS.out.next b3
  clear q3 b3 HS c0 c1 c2 c3 c4 c5 c6 d0 d1 d2 d3 d4 d5 d6 hz
  cases z with
  | false =>
    have low := S3.low
    clear S3
    have HF := Lib.hid (HP.out 10 w3 (ref_10 N5.out (fun e => by have := HZ.out.2 e; cases this)) low)
    clear HP
    go_wp2
    exact HF.out
  | true =>
  have E10 := Lib.hid (HZ.out.1 rfl)
  clear HZ
  have q4 := fun P' => (H1.out.keep S3.low).final (p.regs + p.slots) (by omega) (Int.le_refl _) P'
  unfold viewV at q4
  have c0 := S3.r1.cell (i := 0) rfl
  have d0 := S3.r2.cell (i := 0) rfl
  have c1 := S3.r1.cell (i := 1) rfl
  have d1 := S3.r2.cell (i := 1) rfl
  have c2 := S3.r1.cell (i := 2) rfl
  have d2 := S3.r2.cell (i := 2) rfl
  have c3 := S3.r1.cell (i := 3) rfl
  have d3 := S3.r2.cell (i := 3) rfl
  have c4 := S3.r1.cell (i := 4) rfl
  have d4 := S3.r2.cell (i := 4) rfl
  have c5 := S3.r1.cell (i := 5) rfl
  have d5 := S3.r2.cell (i := 5) rfl
  have c6 := S3.r1.cell (i := 6) rfl
  have d6 := S3.r2.cell (i := 6) rfl
  have HS := Lib.hid S3
  clear S3
  go_wp2_with fail
  refine q4 _ ?_
  intro g1 w4 t1 b4
  have S4 := HS.out.next b4
  clear q4 b4 HS c0 c1 c2 c3 c4 c5 c6 d0 d1 d2 d3 d4 d5 d6
  have q5 := fun P' => (H2.out.keep S4.low).final (q.regs + q.slots) (by omega) (Int.le_refl _) P'
  unfold viewV at q5
  have c0 := S4.r1.cell (i := 0) rfl
  have d0 := S4.r2.cell (i := 0) rfl
  have c1 := S4.r1.cell (i := 1) rfl
  have d1 := S4.r2.cell (i := 1) rfl
  have c2 := S4.r1.cell (i := 2) rfl
  have d2 := S4.r2.cell (i := 2) rfl
  have c3 := S4.r1.cell (i := 3) rfl
  have d3 := S4.r2.cell (i := 3) rfl
  have c4 := S4.r1.cell (i := 4) rfl
  have d4 := S4.r2.cell (i := 4) rfl
  have c5 := S4.r1.cell (i := 5) rfl
  have d5 := S4.r2.cell (i := 5) rfl
  have c6 := S4.r1.cell (i := 6) rfl
  have d6 := S4.r2.cell (i := 6) rfl
  have HS := Lib.hid S4
  have HT1 := Lib.hid t1
  clear S4 t1
  go_wp2_with fail
  refine q5 _ ?_
  intro g2 w5 t2 b5
  have S5 := HS.out.next b5
  have q6 := fun P' => rSame_bel _ _ g1 g2 w5 (HT1.out.keep b5) t2 F1.out F2.out P'
  have HS5 := Lib.hid S5
  clear q5 b5 HS c0 c1 c2 c3 c4 c5 c6 d0 d1 d2 d3 d4 d5 d6 HT1 t2 S5
  go_wp2_with fail
  refine q6 _ ?_
  intro z w6 hz b6
  have HZ := Lib.hid hz
  have S6 := HS5.out.next b6
  clear q6 b6 HS5 hz
  cases z with
  | false =>
    have low := S6.low
    clear S6
    have HF := Lib.hid (HP.out 11 w6 (ref_11 N5.out E10.out (fun e => by have := HZ.out.2 e; cases this)) low)
    clear HP
    go_wp2
    exact HF.out
  | true =>
  have E11 := Lib.hid (HZ.out.1 rfl)
  clear HZ F1 F2
  have q7 := fun P' => rLast_one p po no pn pc nn nc a np w6 (H1.out.keep S6.low) P'
  unfold viewV at q7
  have c0 := S6.r1.cell (i := 0) rfl
  have d0 := S6.r2.cell (i := 0) rfl
  have c1 := S6.r1.cell (i := 1) rfl
  have d1 := S6.r2.cell (i := 1) rfl
  have c2 := S6.r1.cell (i := 2) rfl
  have d2 := S6.r2.cell (i := 2) rfl
  have c3 := S6.r1.cell (i := 3) rfl
  have d3 := S6.r2.cell (i := 3) rfl
  have c4 := S6.r1.cell (i := 4) rfl
  have d4 := S6.r2.cell (i := 4) rfl
  have c5 := S6.r1.cell (i := 5) rfl
  have d5 := S6.r2.cell (i := 5) rfl
  have c6 := S6.r1.cell (i := 6) rfl
  have d6 := S6.r2.cell (i := 6) rfl
  have HS := Lib.hid S6
  clear S6
  go_wp2_with fail
  refine q7 _ ?_
  intro e u w7 he hu b7
  have HE := Lib.hid he
  have HU := Lib.hid hu
  have S7 := HS.out.next b7
  obtain ⟨ek, er, ex, ey⟩ := e
  dsimp only at HU ⊢
  have bA : Below w7.heap.size w7 (w7.alloc (.cells #[.int .i64 ek, .int .i64 er, .int .i64 ex, .int .i64 ey] 40)) := (Below.refl _ _).alloc (Nat.le_refl _) _
  have rE : Row (w7.alloc (.cells #[.int .i64 ek, .int .i64 er, .int .i64 ex, .int .i64 ey] 40)) w7.heap.size 40 [.int .i64 ek, .int .i64 er, .int .i64 ex, .int .i64 ey] := heap_alloc_new w7 _
  have S8 := S7.next bA
  have q8 := fun P' => rLast_one q qo mo qn qc mn mc b nq (w7.alloc (.cells #[.int .i64 ek, .int .i64 er, .int .i64 ex, .int .i64 ey] 40)) (H2.out.keep S8.low) P'
  unfold viewV at q8
  have c0 := S8.r1.cell (i := 0) rfl
  have d0 := S8.r2.cell (i := 0) rfl
  have c1 := S8.r1.cell (i := 1) rfl
  have d1 := S8.r2.cell (i := 1) rfl
  have c2 := S8.r1.cell (i := 2) rfl
  have d2 := S8.r2.cell (i := 2) rfl
  have c3 := S8.r1.cell (i := 3) rfl
  have d3 := S8.r2.cell (i := 3) rfl
  have c4 := S8.r1.cell (i := 4) rfl
  have d4 := S8.r2.cell (i := 4) rfl
  have c5 := S8.r1.cell (i := 5) rfl
  have d5 := S8.r2.cell (i := 5) rfl
  have c6 := S8.r1.cell (i := 6) rfl
  have d6 := S8.r2.cell (i := 6) rfl
  have HS8 := Lib.hid S8
  have HRE := Lib.hid rE
  have HBA := Lib.hid bA
  clear q7 he hu b7 HS S7 S8 rE bA
  clear c0 c1 c2 c3 c4 c5 c6 d0 d1 d2 d3 d4 d5 d6
  have c0 := HS8.out.r1.cell (i := 0) rfl
  have d0 := HS8.out.r2.cell (i := 0) rfl
  have c1 := HS8.out.r1.cell (i := 1) rfl
  have d1 := HS8.out.r2.cell (i := 1) rfl
  have c2 := HS8.out.r1.cell (i := 2) rfl
  have d2 := HS8.out.r2.cell (i := 2) rfl
  have c3 := HS8.out.r1.cell (i := 3) rfl
  have d3 := HS8.out.r2.cell (i := 3) rfl
  have c4 := HS8.out.r1.cell (i := 4) rfl
  have d4 := HS8.out.r2.cell (i := 4) rfl
  have c5 := HS8.out.r1.cell (i := 5) rfl
  have d5 := HS8.out.r2.cell (i := 5) rfl
  have c6 := HS8.out.r1.cell (i := 6) rfl
  have d6 := HS8.out.r2.cell (i := 6) rfl
  go_wp2_with fail
  refine q8 _ ?_
  intro f v w9 hf hv b9
  have HFE := Lib.hid hf
  have HVV := Lib.hid hv
  have S9 := HS8.out.next b9
  have rE9 := HRE.out.keep b9
  have b79 : Below w7.heap.size w7 w9 := HBA.out.trans (b9.mono HBA.out.size)
  obtain ⟨fk, fr, fx, fy⟩ := f
  dsimp only at HVV ⊢
  obtain ⟨W, hW⟩ : ∃ W, W = w9.alloc (.cells #[.int .i64 fk, .int .i64 fr, .int .i64 fx, .int .i64 fy] 40) := ⟨_, rfl⟩
  have bW : Below w9.heap.size w9 W := by subst hW; exact (Below.refl _ _).alloc (Nat.le_refl _) _
  have rF : Row W w9.heap.size 40 [.int .i64 fk, .int .i64 fr, .int .i64 fx, .int .i64 fy] := by subst hW; exact heap_alloc_new w9 _
  have rEW := rE9.keep bW
  have SW := S9.next bW
  have b7W := b79.trans (bW.mono b79.size)
  have e0 := rEW.cell (i := 0) rfl
  have f0 := rF.cell (i := 0) rfl
  have e1 := rEW.cell (i := 1) rfl
  have f1 := rF.cell (i := 1) rfl
  have e2 := rEW.cell (i := 2) rfl
  have f2 := rF.cell (i := 2) rfl
  have e3 := rEW.cell (i := 3) rfl
  have f3 := rF.cell (i := 3) rfl
  rw [hW] at e0 e1 e2 e3 f0 f1 f2 f3
  have HW := Lib.hid hW
  have HSW := Lib.hid SW
  have HB7 := Lib.hid b7W
  have HBW := Lib.hid bW
  have HREW := Lib.hid rEW
  have HRF := Lib.hid rF
  clear q8 hf hv b9 HS8 S9 rE9 b79 hW bW rF rEW SW b7W HRE HBA c0 c1 c2 c3 c4 c5 c6 d0 d1 d2 d3 d4 d5 d6
  have KE : Hid ((endT p np a).kind = ek ∧ (endT p np a).r = er) := by rw [← HE.out]; exact ⟨rfl, rfl⟩
  have KF : Hid ((endT q nq b).kind = fk ∧ (endT q nq b).r = fr) := by rw [← HFE.out]; exact ⟨rfl, rfl⟩
  by_cases hk : ek = fk
  case neg =>
    have hq : (ek == fk) = false := by rw [beq_eq_false_iff_ne]; exact hk
    have HF := Lib.hid (HP.out 12 W (ref_12 N5.out E10.out E11.out (by rw [KE.out.1, KF.out.1]; exact hk)) HSW.out.low)
    clear HP hk HREW HRF HSW
    go_wp2
    rw [← HW.out]
    exact HF.out
  subst hk
  have HRG : Hid (((endT q nq b).kind = 1 ∨ (endT q nq b).kind = 2 → 0 ≤ (endT q nq b).x ∧ (endT q nq b).x < q.blocks.length) ∧ ((endT q nq b).kind = 2 → 0 ≤ (endT q nq b).y ∧ (endT q nq b).y < q.blocks.length)) := endT_range H2.out.good H2.out.lt nq
  rw [← HFE.out] at HRG
  dsimp only at HRG
  rw [← HLEN.out] at HRG
  have hkk : (ek == ek) = true := by simp
  rcases HU.out with ⟨hk1, rfl⟩ | ⟨hk23, hre, g3, rfl, t3⟩
  · rcases HVV.out with ⟨hk1', rfl⟩ | ⟨c, _⟩
    case inr => exfalso; omega
    clear hk1'
    have n3 : (ek == 3) = false := by rw [beq_eq_false_iff_ne]; omega
    obtain ⟨fx, rfl⟩ := Int.eq_ofNat_of_zero_le (HRG.out.1 (.inl hk1)).1
    have HON : Hid (refD p q np nq a b h = onD (finT p np a) (finT q nq b) h ⟨ek, er, ex, ey⟩ ⟨ek, fr, fx, fy⟩) := by
      show _ = _
      rw [HE.out, HFE.out]
      exact ref_on N5.out E10.out E11.out (by rw [KE.out.1, KF.out.1]) (fun c => by have := KE.out.1; omega) (by have := KE.out.1; omega)
    have HK1 := Lib.hid hk1
    clear hk1
    have qO := fun P' => rOnward_cps p q po no qo mo pn pc nn nc qn qc mn mc a b np nq h ho hn hc ek er ex ey ek fr fy fx W (H1.out.keep HSW.out.low) (H2.out.keep HSW.out.low) (HH.out.keep HSW.out.low) (by have := (HRG.out.1 (.inl HK1.out)).2; omega) HRG.out.2 HIN.out P'
    unfold viewV at qO
    have c0 := HSW.out.r1.cell (i := 0) rfl
    have d0 := HSW.out.r2.cell (i := 0) rfl
    have c1 := HSW.out.r1.cell (i := 1) rfl
    have d1 := HSW.out.r2.cell (i := 1) rfl
    have c2 := HSW.out.r1.cell (i := 2) rfl
    have d2 := HSW.out.r2.cell (i := 2) rfl
    have c3 := HSW.out.r1.cell (i := 3) rfl
    have d3 := HSW.out.r2.cell (i := 3) rfl
    have c4 := HSW.out.r1.cell (i := 4) rfl
    have d4 := HSW.out.r2.cell (i := 4) rfl
    have c5 := HSW.out.r1.cell (i := 5) rfl
    have d5 := HSW.out.r2.cell (i := 5) rfl
    have c6 := HSW.out.r1.cell (i := 6) rfl
    have d6 := HSW.out.r2.cell (i := 6) rfl
    have k0 := HSW.out.r3.cell (i := 0) rfl
    have j0 := HREW.out.cell (i := 0) rfl
    have l0 := HRF.out.cell (i := 0) rfl
    have j1 := HREW.out.cell (i := 1) rfl
    have l1 := HRF.out.cell (i := 1) rfl
    have j2 := HREW.out.cell (i := 2) rfl
    have l2 := HRF.out.cell (i := 2) rfl
    have j3 := HREW.out.cell (i := 3) rfl
    have l3 := HRF.out.cell (i := 3) rfl
    have HL := Lib.hid HSW.out.low
    rw [HW.out] at qO c0 c1 c2 c3 c4 c5 c6 d0 d1 d2 d3 d4 d5 d6 k0 j0 j1 j2 j3 l0 l1 l2 l3 HL
    clear e0 e1 e2 e3 f0 f1 f2 f3
    go_wp2_with fail
    refine qO _ ?_
    intro n w20 hn20 b20
    have HF := Lib.hid (HP.out n w20 (by rw [HON.out]; exact hn20) (HL.out.trans (b20.mono HL.out.size)))
    clear HP qO hn20 b20 c0 c1 c2 c3 c4 c5 c6 d0 d1 d2 d3 d4 d5 d6 k0 j0 j1 j2 j3 l0 l1 l2 l3
    go_wp2
    exact HF.out
  · rcases HVV.out with ⟨c, _⟩ | ⟨hkc, hrf, g4, rfl, t4⟩
    case inl => exfalso; omega
    clear hkc
    have q9 := fun P' => rSame_bel _ _ g3 g4 W (t3.keep HB7.out) (t4.keep HBW.out) (H1.out.fine hre.1 (by omega)) (H2.out.fine hrf.1 (by omega)) P'
    rw [HW.out] at q9
    have HSW2 := Lib.hid HSW.out
    rw [HW.out] at HSW2 HREW HRF
    have HK := Lib.hid hk23
    clear t3 t4 hk23
    go_wp2_with fail
    refine q9 _ ?_
    intro z w10 hz b10
    have HZ := Lib.hid hz
    have SX := HSW2.out.next b10
    have rEX := HREW.out.keep b10
    have rFX := HRF.out.keep b10
    have i0 := rEX.cell (i := 0) rfl
    clear q9 hz b10 HSW HSW2 HREW HRF e0 e1 e2 e3 f0 f1 f2 f3
    cases z with
    | false =>
      have low := SX.low
      clear SX rEX rFX
      have HF := Lib.hid (HP.out 12 w10 (ref_12r N5.out E10.out E11.out (by rw [KE.out.1, KF.out.1]) ⟨by rw [KE.out.1]; exact HK.out, by rw [KE.out.2, KF.out.2]; exact fun c => by have := HZ.out.2 c; cases this⟩) low)
      clear HP
      go_wp2
      exact HF.out
    | true =>
      have HEQT := Lib.hid (HZ.out.1 rfl)
      clear HZ
      by_cases hk3 : ek = 3
      · have n3 : (ek == 3) = true := by rw [beq_iff_eq]; exact hk3
        have HF := Lib.hid (HP.out 0 w10 (ref_0 N5.out E10.out E11.out (by rw [KE.out.1, KF.out.1]) (by rw [KE.out.2, KF.out.2]; exact HEQT.out) (by rw [KE.out.1]; exact hk3)) SX.low)
        clear HP SX rEX rFX hk3
        go_wp2
        exact HF.out
      · have n3 : (ek == 3) = false := by rw [beq_eq_false_iff_ne]; exact hk3
        have hk2 : ek = 2 := by have := HK.out; omega
        obtain ⟨fx, rfl⟩ := Int.eq_ofNat_of_zero_le (HRG.out.1 (.inr hk2)).1
        have HON : Hid (refD p q np nq a b h = onD (finT p np a) (finT q nq b) h ⟨ek, er, ex, ey⟩ ⟨ek, fr, fx, fy⟩) := by
          show _ = _
          rw [HE.out, HFE.out]
          exact ref_on N5.out E10.out E11.out (by rw [KE.out.1, KF.out.1]) (fun c => c.2 (by rw [KE.out.2, KF.out.2]; exact HEQT.out)) (by rw [KE.out.1]; exact hk3)
        have HK2 := Lib.hid hk2
        clear hk3 hk2
        have qO := fun P' => rOnward_cps p q po no qo mo pn pc nn nc qn qc mn mc a b np nq h ho hn hc ek er ex ey ek fr fy fx w10 (H1.out.keep SX.low) (H2.out.keep SX.low) (HH.out.keep SX.low) (by have := (HRG.out.1 (.inr HK2.out)).2; omega) HRG.out.2 HIN.out P'
        unfold viewV at qO
        have c0 := SX.r1.cell (i := 0) rfl
        have d0 := SX.r2.cell (i := 0) rfl
        have c1 := SX.r1.cell (i := 1) rfl
        have d1 := SX.r2.cell (i := 1) rfl
        have c2 := SX.r1.cell (i := 2) rfl
        have d2 := SX.r2.cell (i := 2) rfl
        have c3 := SX.r1.cell (i := 3) rfl
        have d3 := SX.r2.cell (i := 3) rfl
        have c4 := SX.r1.cell (i := 4) rfl
        have d4 := SX.r2.cell (i := 4) rfl
        have c5 := SX.r1.cell (i := 5) rfl
        have d5 := SX.r2.cell (i := 5) rfl
        have c6 := SX.r1.cell (i := 6) rfl
        have d6 := SX.r2.cell (i := 6) rfl
        have k0 := SX.r3.cell (i := 0) rfl
        have j0 := rEX.cell (i := 0) rfl
        have l0 := rFX.cell (i := 0) rfl
        have j1 := rEX.cell (i := 1) rfl
        have l1 := rFX.cell (i := 1) rfl
        have j2 := rEX.cell (i := 2) rfl
        have l2 := rFX.cell (i := 2) rfl
        have j3 := rEX.cell (i := 3) rfl
        have l3 := rFX.cell (i := 3) rfl
        have HL := Lib.hid SX.low
        go_wp2_with fail
        refine qO _ ?_
        intro n w20 hn20 b20
        have HF := Lib.hid (HP.out n w20 (by rw [HON.out]; exact hn20) (HL.out.trans (b20.mono HL.out.size)))
        clear HP qO hn20 b20 c0 c1 c2 c3 c4 c5 c6 d0 d1 d2 d3 d4 d5 d6 k0 j0 j1 j2 j3 l0 l1 l2 l3
        go_wp2
        exact HF.out

end Go.Proofs.YtblhmeidbjigaabGreatDoor

/- The reference's twins: suits. -/
set_option linter.unusedSimpArgs false
set_option linter.unusedVariables false
namespace Go.Proofs.YtblhmeidbjigaabGreatDoor
open Go.RowKit

set_option maxRecDepth 100000 in
set_option maxHeartbeats 4000000 in
theorem rSuits_cps (a0 a1 a2 a3 d0 d1 d2 d3 : Int) (po qo ho : Option Addr) (pn pc qn qc hn hc : Nat) (h : List PingD) (w : World) (hh : RdHint w (.slice ho hn hc) h) (hadd : IntKind.i64.wrap (d1 + d3) = d1 + d3) (Post : Ending → World → Prop)
    (hp : ∀ z w', (z = true ↔ h.length = qn ∧ ∀ b, b < h.length → hsrc h b < pn ∧ ∀ x ∈ hpairs h b, x.reg < a1 ∧ x.place < d1 + d3) → Below w.heap.size w w' → Post (.returned (.bool z)) w') :
    Calls Tryz.prog 122 #[.agg #[.int .i64 a0, .int .i64 a1, .int .i64 a2, .int .i64 a3, .slice po pn pc], .agg #[.int .i64 d0, .int .i64 d1, .int .i64 d2, .int .i64 d3, .slice qo qn qc], .agg #[.slice ho hn hc]] w Post := by
  obtain ⟨ho', hc', e0, hhl, hhs⟩ := hh
  simp only [Value.slice.injEq] at e0
  obtain ⟨rfl, rfl, rfl⟩ := e0
  obtain ⟨A, hA⟩ : ∃ A, A = ((w.alloc (.cells #[.int .i64 a0, .int .i64 a1, .int .i64 a2, .int .i64 a3, .slice po pn pc] 25)).alloc (.cells #[.int .i64 d0, .int .i64 d1, .int .i64 d2, .int .i64 d3, .slice qo qn qc] 25)).alloc (.cells #[.slice ho h.length hc] 30) := ⟨_, rfl⟩
  have rp : Row A w.heap.size 25 [.int .i64 a0, .int .i64 a1, .int .i64 a2, .int .i64 a3, .slice po pn pc] := by subst hA; exact Row.alloc (Row.alloc (heap_alloc_new w _) _) _
  have rq : Row A (w.heap.size + 1) 25 [.int .i64 d0, .int .i64 d1, .int .i64 d2, .int .i64 d3, .slice qo qn qc] := by subst hA; exact Row.alloc (heap_alloc2_new w _ _) _
  have rh : Row A (w.heap.size + 2) 30 [.slice ho h.length hc] := by
    subst hA
    have q := heap_alloc2_new (w.alloc (.cells #[.int .i64 a0, .int .i64 a1, .int .i64 a2, .int .i64 a3, .slice po pn pc] 25)) (.cells #[.int .i64 d0, .int .i64 d1, .int .i64 d2, .int .i64 d3, .slice qo qn qc] 25) (.cells #[.slice ho h.length hc] 30)
    simp only [World.size_alloc] at q
    exact q
  have b0 : Below w.heap.size w A := by subst hA; exact (((Below.refl w.heap.size w).alloc (Nat.le_refl _) _).alloc (by simp) _).alloc (by simp; omega) _
  have HA := Lib.hid hA
  have HP := Lib.hid hp
  clear hA hp
  by_cases hlen : h.length = qn
  · have hq : ((h.length : Int) == (qn : Int)) = true := by simp [hlen]
    have hne : ((h.length : Int) != (qn : Int)) = false := by simp [hlen]
    have HLEN := Lib.hid hlen
    clear hlen
    go_enter Tryz.func122, Tryz.ntmps122
    go_wp2
    rw [← HA.out]
    try rw [hne]
    clear hne hq
    clear HA
    go_loopw [7] (fun i wr => ∃ (k : Nat), k ≤ h.length ∧ i = .int .i64 k ∧ Below A.heap.size A wr ∧ Hid (∀ b, b < k → hsrc h b < pn ∧ ∀ x ∈ hpairs h b, x.reg < a1 ∧ x.place < d1 + d3))
      (fun i _ => h.length - (intOf i).toNat)
    case atStart => exact ⟨0, Nat.zero_le _, rfl, Below.refl _ _, fun j hj => by omega⟩
    case round =>
      obtain ⟨k, hk, rfl, hbel, hall⟩ := hrel
      have hbw : Below w.heap.size w wr := b0.trans (hbel.mono b0.size)
      have x2 := cell_keep hbel (rh.cell (i := 0) rfl)
      by_cases hlt : k < h.length
      · obtain ⟨hb, off, sv, rfl, g0, g1, g2⟩ := hhs k hlt
        obtain ⟨so, sc, rfl, hql, hqs⟩ := id g2
        have x1 := cell_keep hbel (rp.cell (i := 4) rfl)
        have y0 := cell_keep hbw g0
        have y1 := cell_keep hbw g1
        have hki : (0 : Int) ≤ (k : Int) := by omega
        have hkj : (k : Int) < (h.length : Int) := by omega
        have HBD := Lib.hid (fun n => below_drewN hbel n)
        have HBW := Lib.hid (fun n => below_drewN hbw n)
        obtain ⟨qs, hqe⟩ : ∃ qs, qs = hpairs h k := ⟨_, rfl⟩
        obtain ⟨s0, hse⟩ : ∃ s0, s0 = hsrc h k := ⟨_, rfl⟩
        have HC : Hid ((s0 < pn ∧ ∀ x ∈ qs, x.reg < a1 ∧ x.place < d1 + d3) → ∀ b, b < k + 1 → hsrc h b < pn ∧ ∀ x ∈ hpairs h b, x.reg < a1 ∧ x.place < d1 + d3) := fun hC j hj => by
          by_cases e : j = k
          · rw [e, ← hqe, ← hse]; exact hC
          · exact hall.out j (by omega)
        have HN : Hid ((∀ b, b < h.length → hsrc h b < pn ∧ ∀ x ∈ hpairs h b, x.reg < a1 ∧ x.place < d1 + d3) → s0 < pn ∧ ∀ x ∈ qs, x.reg < a1 ∧ x.place < d1 + d3) := fun hA => by rw [hqe, hse]; exact hA k hlt
        rw [← hqe] at hqs y1 hql g2
        rw [← hse] at y0
        clear g0 g1 g2 hhs hbel hqe hse hall
        by_cases hs : s0 < (pn : Int)
        · have n1 : ¬ ((pn : Int) ≤ s0) := by omega
          go_wp2
          go_quiet (fail)
          go_wp2
          go_loopw [9] (fun i wi => ∃ (j : Nat), j ≤ qs.length ∧ i = .int .i64 j ∧ Below A.heap.size A wi ∧ Hid (∀ l, l < j → preg qs l < a1 ∧ pplace qs l < d1 + d3))
            (fun i _ => qs.length - (intOf i).toNat)
          case atStart => exact ⟨0, Nat.zero_le _, rfl, HBD.out _, fun j hj => by omega⟩
          case round =>
            clear x1 x2 y0 y1 HBD HBW hbw n1
            rename World => wi
            obtain ⟨j, hj, rfl, kei, hin⟩ := hrel
            have keiw : Below w.heap.size w wi := b0.trans (kei.mono b0.size)
            by_cases hlt2 : j < qs.length
            · obtain ⟨b2, off2, rfl, e0, e1⟩ := hqs j hlt2
              have y0 := cell_keep keiw e0
              have y1 := cell_keep keiw e1
              have c1 := cell_keep kei (rp.cell (i := 1) rfl)
              have c6 := cell_keep kei (rq.cell (i := 1) rfl)
              have c8 := cell_keep kei (rq.cell (i := 3) rfl)
              have hji : (0 : Int) ≤ (j : Int) := by omega
              have hjj : (j : Int) < (qs.length : Int) := by omega
              have hbd := Lib.hid (fun n => below_drewN kei n)
              have hbd2 := Lib.hid (fun n => below_drewN keiw n)
              have HM := Lib.hid (getD_mem' (d := pz) hlt2)
              have HR : Hid ((qs.getD j pz).reg = preg qs j ∧ (qs.getD j pz).place = pplace qs j) := ⟨rfl, rfl⟩
              clear e0 e1 hqs kei keiw
              generalize preg qs j = rg at *
              generalize pplace qs j = pg at *
              by_cases h1 : rg < a1
              · have m1 : ¬ (a1 ≤ rg) := by omega
                by_cases h2 : pg < d1 + d3
                · have m2 : ¬ (d1 + d3 ≤ pg) := by omega
                  have hin2 : Hid (∀ l, l < j + 1 → preg qs l < a1 ∧ pplace qs l < d1 + d3) := fun l hl => by
                    by_cases e : l = j
                    · rw [e]
                      have q1 : preg qs j = rg := HR.out.1
                      have q2 : pplace qs j = pg := HR.out.2
                      rw [q1, q2]; exact ⟨h1, h2⟩
                    · exact hin.out l (by omega)
                  clear hin HR HM
                  go_wp2
                  go_quiet (fail)
                  go_wp2
                  go_roundw
                  case rel => exact ⟨j + 1, by omega, by go_num, hbd.out _, hin2⟩
                  case measure => simp [intOf]; omega
                · have m2 : d1 + d3 ≤ pg := by omega
                  have HNO : Hid (¬ (s0 < pn ∧ ∀ x ∈ qs, x.reg < a1 ∧ x.place < d1 + d3)) := fun hA => h2 (by have := (hA.2 _ HM.out).2; rw [HR.out.2] at this; exact this)
                  clear hin HR HM
                  go_wp2
                  go_quiet (fail)
                  go_wp2
                  exact HP.out false _ ⟨fun hq => (by cases hq), fun hA => absurd (HN.out hA.2) HNO.out⟩ (hbd2.out _)
              · have m1 : a1 ≤ rg := by omega
                have HNO : Hid (¬ (s0 < pn ∧ ∀ x ∈ qs, x.reg < a1 ∧ x.place < d1 + d3)) := fun hA => h1 (by have := (hA.2 _ HM.out).1; rw [HR.out.1] at this; exact this)
                clear hin HR HM
                go_wp2
                go_quiet (fail)
                go_wp2
                exact HP.out false _ ⟨fun hq => (by cases hq), fun hA => absurd (HN.out hA.2) HNO.out⟩ (hbd2.out _)
            · obtain rfl : j = qs.length := by omega
              have HY : Hid (∀ b, b < k + 1 → hsrc h b < pn ∧ ∀ x ∈ hpairs h b, x.reg < a1 ∧ x.place < d1 + d3) := HC.out ⟨hs, fun x hx => by
                obtain ⟨l, hl, rfl⟩ := List.getElem_of_mem hx
                have := hin.out l hl
                simpa [preg, pplace, List.getD, hl] using this⟩
              clear hqs hin HC HN
              go_wp2
              go_roundw
              case rel => exact ⟨k + 1, by omega, by go_num, kei, HY⟩
              case measure => simp [intOf]; omega
        · have n1 : (pn : Int) ≤ s0 := by omega
          go_wp2
          go_quiet (fail)
          go_wp2
          exact HP.out false _ ⟨fun hq => (by cases hq), fun hA => by have := (HN.out hA.2).1; omega⟩ (HBW.out _)
      · obtain rfl : k = h.length := by omega
        have HF := Lib.hid (HP.out true _ ⟨fun _ => ⟨HLEN.out, hall.out⟩, fun _ => rfl⟩ hbw)
        clear hhs hall hbel hbw
        go_wp2
        exact HF.out
  · have hq : ((h.length : Int) == (qn : Int)) = false := by simp; omega
    have HF := Lib.hid (HP.out false _ ⟨fun hq => (by cases hq), fun hA => absurd hA.1 hlen⟩ b0)
    clear hhs rp rq rh b0 HP hlen
    go_enter Tryz.func122, Tryz.ntmps122
    go_wp2
    rw [← HA.out]
    exact HF.out

end Go.Proofs.YtblhmeidbjigaabGreatDoor

/- The reference's twins: starts. -/
set_option linter.unusedSimpArgs false
set_option linter.unusedVariables false
namespace Go.Proofs.YtblhmeidbjigaabGreatDoor
open Go.RowKit

set_option maxRecDepth 100000 in
set_option maxHeartbeats 1000000 in
theorem rStarts_cps (d0 d1 d2 d3 : Int) (qo ho : Option Addr) (qn qc hn hc : Nat) (h : List PingD) (h0 : 0 < h.length) (w : World) (hh : RdHint w (.slice ho hn hc) h) (Post : Ending → World → Prop)
    (hp : ∀ z w', (z = true ↔ hsrc h 0 = 0 ∧ ∀ x ∈ hpairs h 0, x.place < d1 ∧ (x.reg = x.place ∨ (d0 ≤ x.reg ∧ d0 ≤ x.place))) → Below w.heap.size w w' → Post (.returned (.bool z)) w') :
    Calls Tryz.prog 123 #[.agg #[.int .i64 d0, .int .i64 d1, .int .i64 d2, .int .i64 d3, .slice qo qn qc], .agg #[.slice ho hn hc]] w Post := by
  obtain ⟨ho', hc', e0, hhl, hhs⟩ := hh
  simp only [Value.slice.injEq] at e0
  obtain ⟨rfl, rfl, rfl⟩ := e0
  obtain ⟨hb, hoff, sv, rfl, g0, g1, g2⟩ := hhs 0 h0
  obtain ⟨so, sc, hsv, hql, hqs⟩ := id g2
  obtain ⟨qs, hqe⟩ : ∃ qs, qs = hpairs h 0 := ⟨_, rfl⟩
  rw [← hqe] at hsv hqs hql hp
  subst hsv
  simp only [Nat.zero_mul, Nat.add_zero] at g0 g1
  obtain ⟨A, hA⟩ : ∃ A, A = (w.alloc (.cells #[.int .i64 d0, .int .i64 d1, .int .i64 d2, .int .i64 d3, .slice qo qn qc] 25)).alloc (.cells #[.slice (some ⟨hb, hoff, none⟩) h.length hc] 30) := ⟨_, rfl⟩
  have rq : Row A w.heap.size 25 [.int .i64 d0, .int .i64 d1, .int .i64 d2, .int .i64 d3, .slice qo qn qc] := by subst hA; exact Row.alloc (heap_alloc_new w _) _
  have b0 : Below w.heap.size w A := by subst hA; exact ((Below.refl w.heap.size w).alloc (Nat.le_refl _) _).alloc (by simp) _
  have y0 := cell_keep b0 g0
  have y1 := cell_keep b0 g1
  rw [hA] at y0 y1
  have hli : (0 : Int) < (h.length : Int) := by omega
  have HA := Lib.hid hA
  have HP := Lib.hid hp
  clear hp hhs g0 g1 g2 hqe hA
  by_cases hz : hsrc h 0 = 0
  · have HZ0 := Lib.hid hz
    rw [hz] at y0
    clear hz
    go_enter Tryz.func123, Tryz.ntmps123
    go_wp2
    rw [← HA.out]
    clear HA y0 y1
    go_loopw [6] (fun i wr => ∃ (k : Nat), k ≤ qs.length ∧ i = .int .i64 k ∧ Below A.heap.size A wr ∧ Hid (∀ j, j < k → pplace qs j < d1 ∧ (preg qs j = pplace qs j ∨ (d0 ≤ preg qs j ∧ d0 ≤ pplace qs j))))
      (fun i _ => qs.length - (intOf i).toNat)
    case atStart => exact ⟨0, Nat.zero_le _, rfl, Below.refl _ _, fun j hj => by omega⟩
    case round =>
      obtain ⟨k, hk, rfl, hbel, hall⟩ := hrel
      have hbw : Below w.heap.size w wr := b0.trans (hbel.mono b0.size)
      by_cases hlt : k < qs.length
      · obtain ⟨b, off, rfl, g0, g1⟩ := hqs k hlt
        have z0 := cell_keep hbw g0
        have z1 := cell_keep hbw g1
        have e0 := cell_keep hbel (rq.cell (i := 0) rfl)
        have e1 := cell_keep hbel (rq.cell (i := 1) rfl)
        have hki : (0 : Int) ≤ (k : Int) := by omega
        have hkj : (k : Int) < (qs.length : Int) := by omega
        have hbd := Lib.hid (fun n => below_drewN hbel n)
        have hbd2 := Lib.hid (fun n => below_drewN hbw n)
        have HM := Lib.hid (getD_mem' (d := pz) hlt)
        have HR : Hid ((qs.getD k pz).reg = preg qs k ∧ (qs.getD k pz).place = pplace qs k) := ⟨rfl, rfl⟩
        clear g0 g1 hqs hbel hbw
        generalize preg qs k = rg at *
        generalize pplace qs k = pg at *
        by_cases h1 : pg < d1
        · have n1 : decide (d1 ≤ pg) = false := by simp; omega
          by_cases h2 : rg = pg
          · have hq : (rg != pg) = false := by simp [h2]
            have H2 := Lib.hid h2
            have hall2 : Hid (∀ j, j < k + 1 → pplace qs j < d1 ∧ (preg qs j = pplace qs j ∨ (d0 ≤ preg qs j ∧ d0 ≤ pplace qs j))) := fun j hj => by
              by_cases e : j = k
              · rw [e]
                have q1 : preg qs k = rg := HR.out.1
                have q2 : pplace qs k = pg := HR.out.2
                rw [q1, q2]; exact ⟨by omega, by omega⟩
              · exact hall.out j (by omega)
            clear hall HR HM h2
            go_wp2
            go_quiet (fail)
            go_wp2
            go_quiet (fail)
            go_wp2
            go_roundw
            case rel => first | exact ⟨k + 1, by omega, by go_num, hbd.out _, hall2⟩ | exact ⟨k + 1, by omega, by go_num, below_drewN (hbd.out _) _, hall2⟩
            case measure => simp [intOf]; omega
          · have hq : (rg != pg) = true := by simp [h2]
            by_cases h3 : rg < d0
            · have D3 : decide (rg < d0) = true := by simp; omega
              have HNO : Hid (¬ ((qs.getD k pz).place < d1 ∧ ((qs.getD k pz).reg = (qs.getD k pz).place ∨ (d0 ≤ (qs.getD k pz).reg ∧ d0 ≤ (qs.getD k pz).place)))) := fun hA => by rw [HR.out.1, HR.out.2] at hA; omega
              clear hall HR
              go_wp2
              go_quiet (fail)
              go_wp2
              (try (go_quiet (fail); go_wp2))
              first | exact HP.out false _ ⟨fun hq => (by cases hq), fun hA => absurd (hA.2 _ HM.out) HNO.out⟩ (hbd2.out _) | exact HP.out false _ ⟨fun hq => (by cases hq), fun hA => absurd (hA.2 _ HM.out) HNO.out⟩ (below_drewN (hbd2.out _) _)
            · have D3 : decide (rg < d0) = false := by simp; omega
              by_cases h4 : pg < d0
              · have D4 : decide (pg < d0) = true := by simp; omega
                have HNO : Hid (¬ ((qs.getD k pz).place < d1 ∧ ((qs.getD k pz).reg = (qs.getD k pz).place ∨ (d0 ≤ (qs.getD k pz).reg ∧ d0 ≤ (qs.getD k pz).place)))) := fun hA => by rw [HR.out.1, HR.out.2] at hA; omega
                clear hall HR
                go_wp2
                go_quiet (fail)
                go_wp2
                (try (go_quiet (fail); go_wp2))
                first | exact HP.out false _ ⟨fun hq => (by cases hq), fun hA => absurd (hA.2 _ HM.out) HNO.out⟩ (hbd2.out _) | exact HP.out false _ ⟨fun hq => (by cases hq), fun hA => absurd (hA.2 _ HM.out) HNO.out⟩ (below_drewN (hbd2.out _) _)
              · have D4 : decide (pg < d0) = false := by simp; omega
                have hall2 : Hid (∀ j, j < k + 1 → pplace qs j < d1 ∧ (preg qs j = pplace qs j ∨ (d0 ≤ preg qs j ∧ d0 ≤ pplace qs j))) := fun j hj => by
                  by_cases e : j = k
                  · rw [e]
                    have q1 : preg qs k = rg := HR.out.1
                    have q2 : pplace qs k = pg := HR.out.2
                    rw [q1, q2]; exact ⟨by omega, by omega⟩
                  · exact hall.out j (by omega)
                clear hall HR HM
                go_wp2
                go_quiet (fail)
                go_wp2
                go_quiet (fail)
                go_wp2
                go_roundw
                case rel => first | exact ⟨k + 1, by omega, by go_num, hbd.out _, hall2⟩ | exact ⟨k + 1, by omega, by go_num, below_drewN (hbd.out _) _, hall2⟩
                case measure => simp [intOf]; omega
        · have n1 : decide (d1 ≤ pg) = true := by simp; omega
          have HNO : Hid (¬ ((qs.getD k pz).place < d1 ∧ ((qs.getD k pz).reg = (qs.getD k pz).place ∨ (d0 ≤ (qs.getD k pz).reg ∧ d0 ≤ (qs.getD k pz).place)))) := fun hA => by rw [HR.out.1, HR.out.2] at hA; omega
          clear hall HR
          go_wp2
          go_quiet (fail)
          go_wp2
          (try (go_quiet (fail); go_wp2))
          first | exact HP.out false _ ⟨fun hq => (by cases hq), fun hA => absurd (hA.2 _ HM.out) HNO.out⟩ (hbd2.out _) | exact HP.out false _ ⟨fun hq => (by cases hq), fun hA => absurd (hA.2 _ HM.out) HNO.out⟩ (below_drewN (hbd2.out _) _)
      · obtain rfl : k = qs.length := by omega
        have HY : Hid (∀ x ∈ qs, x.place < d1 ∧ (x.reg = x.place ∨ (d0 ≤ x.reg ∧ d0 ≤ x.place))) := fun x hx => by
          obtain ⟨j, hj, rfl⟩ := List.getElem_of_mem hx
          have := hall.out j hj
          simpa [preg, pplace, List.getD, hj] using this
        have HF := Lib.hid (HP.out true _ ⟨fun _ => ⟨HZ0.out, HY.out⟩, fun _ => rfl⟩ hbw)
        clear hqs hall hbel hbw
        go_wp2
        exact HF.out
  · have hzq : (hsrc h 0 == 0) = false := by simp [hz]
    have HF := Lib.hid (HP.out false _ ⟨fun hq => (by cases hq), fun hA => absurd hA.1 hz⟩ b0)
    clear hqs rq HP hz b0
    generalize hsrc h 0 = s0 at *
    go_enter Tryz.func123, Tryz.ntmps123
    go_wp2
    rw [← HA.out]
    exact HF.out

end Go.Proofs.YtblhmeidbjigaabGreatDoor
