/- The reference's Validate. -/
import Derived.Test.YtblhmeidbjigaabGreatDoorRows
import Derived.WalkKit
import Derived.WalkSpells
import Derived.WalkLawsBesides
import Derived.Laws.BytesArg
import Derived.Deep.QuietTactic
import Derived.BigQuiet
import Derived.Deep.RegionHeld3
import Derived.Lib.ItoaNum
import Derived.Lib.ItoaLen
import Derived.OpenShut
import Derived.Maps.AppendAt
import Derived.Shelf.Strconv.Itoa3
import Derived.Shelf.Lay
import Derived.Ground.NamesProg
import Derived.Lib.SmallJoins
import Derived.Lib.Hide
import Derived.StillTailTactics
import Derived.ProofKit
import Derived.SizedLaws
import Derived.Deep.Slices
import Derived.ShutString
import Derived.ChangeOld
import Derived.Deep.Strs
import Derived.Test.YtblhmeidbjigaabGreatDoorRTwDToRTwGAll

set_option linter.unusedSimpArgs false
set_option linter.unusedVariables false
namespace Go.Proofs.YtblhmeidbjigaabGreatDoor
open Go.RowKit

/-- What Validate holds beside each other. -/
structure VaW (w W : World) (P Q H : Nat) (cp cq : List Value) (hv : Value) : Prop where
  rp : Row W P 25 cp
  rq : Row W Q 25 cq
  rh : Row W H 30 [hv]
  low : Below w.heap.size w W

theorem VaW.next {w W W' : World} {P Q H : Nat} {cp cq : List Value} {hv : Value} (h : VaW w W P Q H cp cq hv) (hb : Below W.heap.size W W') : VaW w W' P Q H cp cq hv :=
  ⟨h.rp.keep hb, h.rq.keep hb, h.rh.keep hb, h.low.trans (hb.mono h.low.size)⟩

theorem vw_rdn {w : World} {B n : Nat} {v : Value} {l : List Int} (h : w.ownsRow B 3 1 v n (ints l)) (hn : l.length = n) : RdWords w v l := by subst hn; exact vw_rd h

set_option maxRecDepth 100000 in
set_option maxHeartbeats 2000000 in
theorem rVal_cps (s t g : ByteArray) (w : World) (hs : s.size ≤ maxLen) (ht : t.size ≤ maxLen) (hgz : g.size ≤ maxLen) (htab : TabW w) (Post : Ending → World → Prop)
    (hp : ∀ e n w', ValAns s t g e n → Below w.heap.size w w' → Post (.returned (.tuple #[.int .i64 e, .int .i64 n])) w') :
    Calls Tryz.prog 91 #[.string s, .string t, .string g] w Post := by
  have hc := rDecode_any s w hs
  have HP := Lib.hid hp
  clear hp
  go_enter Tryz.func91, Tryz.ntmps91
  go_wp2_with fail
  refine hc.mono ?_
  clear hc
  rintro e w1 ⟨hor, hb1⟩
  rcases hor with ⟨p, v, bv, rfl, ho, hd, hgp, htp⟩ | ⟨hn, rfl⟩
  case inr =>
    have HF := Lib.hid (HP.out 6 0 (w1.alloc (.cells #[.int .i64 0, .int .i64 0, .int .i64 0, .int .i64 0, .slice none 0 0] 25)) (.inl ⟨rfl, rfl, fun p hg he => absurd he (hn p hg)⟩) (hb1.alloc hb1.size _))
    clear hb1 hn HP
    go_wp2
    exact HF.out
  obtain ⟨po, pc, rfl⟩ := owns_slice ho.row
  have hrp0 := ho.rd
  rw [hd] at hrp0
  obtain ⟨pn, hpn⟩ : ∃ pn, pn = bv.length := ⟨_, rfl⟩
  have hpl : pn = p.blocks.length := by rw [hpn, ← hd, bdat_length]
  rw [← hpn] at hrp0 ⊢
  unfold progV
  have bp : Below w.heap.size w (w1.alloc (.cells #[.int .i64 p.args, .int .i64 p.regs, .int .i64 p.data, .int .i64 p.slots, .slice po pn pc] 25)) := hb1.alloc hb1.size _
  have bp1 : Below w1.heap.size w1 (w1.alloc (.cells #[.int .i64 p.args, .int .i64 p.regs, .int .i64 p.data, .int .i64 p.slots, .slice po pn pc] 25)) := (Below.refl _ _).alloc (Nat.le_refl _) _
  have rp1 : Row (w1.alloc (.cells #[.int .i64 p.args, .int .i64 p.regs, .int .i64 p.data, .int .i64 p.slots, .slice po pn pc] 25)) w1.heap.size 25 [.int .i64 p.args, .int .i64 p.regs, .int .i64 p.data, .int .i64 p.slots, .slice po pn pc] := heap_alloc_new w1 _
  have hrp1 := hrp0.keep bp1
  have HPL := Lib.hid hpl
  have HONE : Hid (∀ p', progGood p' = true → str (progText p') = s → p' = p) := fun p' hg he => prog_one hg hgp (he.trans htp.symm)
  have HTP := Lib.hid htp
  obtain ⟨hpr, hpa, hpd, hpsl⟩ := good_shape hgp
  clear ho hd hrp0 hb1 bp1 hpn hpl htp
  by_cases hps : p.slots = 0
  case neg =>
    have HF := Lib.hid (HP.out 6 0 (w1.alloc (.cells #[.int .i64 p.args, .int .i64 p.regs, .int .i64 p.data, .int .i64 p.slots, .slice po pn pc] 25)) (.inl ⟨rfl, rfl, fun p' hg he => by rw [HONE.out p' hg he]; exact hps⟩) bp)
    have hq : 0 < p.slots := by omega
    clear bp rp1 hrp1 HP hps
    go_wp2
    exact HF.out
  have hq0 : ¬ (0 < p.slots) := by omega
  have HPS := Lib.hid hps
  have hc2 := rDecode_any t (w1.alloc (.cells #[.int .i64 p.args, .int .i64 p.regs, .int .i64 p.data, .int .i64 p.slots, .slice po pn pc] 25)) ht
  have HB := Lib.hid bp
  have HRP := Lib.hid hrp1
  have HRow := Lib.hid rp1
  clear hps bp hrp1 rp1
  go_wp2_with fail
  refine hc2.mono ?_
  clear hc2
  rintro e w2 ⟨hor2, hb2⟩
  have b2 := HB.out.trans (hb2.mono HB.out.size)
  have rp2 := HRow.out.keep hb2
  have hrp2 := HRP.out.keep hb2
  clear HB HRP HRow hq0
  rcases hor2 with ⟨q, v2, bv2, rfl, ho2, hd2, hgq, htq⟩ | ⟨hn2, rfl⟩
  case inr =>
    have HF := Lib.hid (HP.out 7 0 (w2.alloc (.cells #[.int .i64 0, .int .i64 0, .int .i64 0, .int .i64 0, .slice none 0 0] 25)) (.inr ⟨p, hgp, HTP.out, HPS.out, .inl ⟨rfl, rfl, hn2⟩⟩) (b2.alloc b2.size _))
    clear b2 hn2 HP rp2 hrp2 hb2
    go_wp2
    exact HF.out
  obtain ⟨qo, qc, rfl⟩ := owns_slice ho2.row
  have hrq0 := ho2.rd
  rw [hd2] at hrq0
  obtain ⟨qn, hqn⟩ : ∃ qn, qn = bv2.length := ⟨_, rfl⟩
  have hql : qn = q.blocks.length := by rw [hqn, ← hd2, bdat_length]
  rw [← hqn] at hrq0 ⊢
  unfold progV
  have bq1 : Below w2.heap.size w2 (w2.alloc (.cells #[.int .i64 q.args, .int .i64 q.regs, .int .i64 q.data, .int .i64 q.slots, .slice qo qn qc] 25)) := (Below.refl _ _).alloc (Nat.le_refl _) _
  have b3 : Below w.heap.size w (w2.alloc (.cells #[.int .i64 q.args, .int .i64 q.regs, .int .i64 q.data, .int .i64 q.slots, .slice qo qn qc] 25)) := b2.alloc b2.size _
  have rq3 : Row (w2.alloc (.cells #[.int .i64 q.args, .int .i64 q.regs, .int .i64 q.data, .int .i64 q.slots, .slice qo qn qc] 25)) w2.heap.size 25 [.int .i64 q.args, .int .i64 q.regs, .int .i64 q.data, .int .i64 q.slots, .slice qo qn qc] := heap_alloc_new w2 _
  have rp3 := rp2.keep bq1
  have hrp3 := hrp2.keep bq1
  have hrq3 := hrq0.keep bq1
  have HQL := Lib.hid hql
  have HTQ := Lib.hid htq
  have pa := fun o => (rp2.alloc o).cell (i := 0) rfl
  have pd := fun o => (rp2.alloc o).cell (i := 2) rfl
  clear ho2 hd2 hrq0 hb2 hqn hql htq b2 hrp2 bq1
  by_cases hsh : p.args = q.args ∧ p.data = q.data
  case neg =>
    have HF := Lib.hid (HP.out 8 0 (w2.alloc (.cells #[.int .i64 q.args, .int .i64 q.regs, .int .i64 q.data, .int .i64 q.slots, .slice qo qn qc] 25)) (.inr ⟨p, hgp, HTP.out, HPS.out, .inr ⟨q, hgq, HTQ.out, .inl ⟨rfl, rfl, hsh⟩⟩⟩) b3)
    clear b3 rq3 rp3 hrp3 hrq3 HP rp2
    by_cases ha : p.args = q.args
    · have e1 : (p.args == q.args) = true := by rw [beq_iff_eq]; exact ha
      have hdd : ¬ p.data = q.data := fun e => hsh ⟨ha, e⟩
      have e2 : (p.data == q.data) = false := by rw [beq_eq_false_iff_ne]; exact hdd
      have HA := Lib.hid ha
      clear ha hsh
      go_wp2
      exact HF.out
    · have e1 : (p.args == q.args) = false := by rw [beq_eq_false_iff_ne]; exact ha
      clear hsh
      go_wp2
      exact HF.out
  have HSH := Lib.hid hsh
  rw [hsh.1, hsh.2] at rp2 rp3
  clear pa pd
  have pa := fun o => (rp2.alloc o).cell (i := 0) rfl
  have pd := fun o => (rp2.alloc o).cell (i := 2) rfl
  have hc3 := rDecodeHint_any g (w2.alloc (.cells #[.int .i64 q.args, .int .i64 q.regs, .int .i64 q.data, .int .i64 q.slots, .slice qo qn qc] 25)) hgz
  have HB := Lib.hid b3
  have HRP := Lib.hid hrp3
  have HRQ := Lib.hid hrq3
  have HrP := Lib.hid rp3
  have HrQ := Lib.hid rq3
  clear hsh b3 hrp3 hrq3 rp3 rq3 rp2
  go_wp2_with fail
  refine hc3.mono ?_
  clear hc3
  rintro e w3 ⟨hor3, hb3⟩
  have b3 := HB.out.trans (hb3.mono HB.out.size)
  have rp3 := HrP.out.keep hb3
  have rq3 := HrQ.out.keep hb3
  have hrp3 := HRP.out.keep hb3
  have hrq3 := HRQ.out.keep hb3
  clear HB HRP HRQ HrP HrQ pa pd hb3
  rcases hor3 with ⟨v3, hv, rfl, ho3, hgh, hth⟩ | ⟨hn3, rfl⟩
  case inr =>
    have HF := Lib.hid (HP.out 2 0 (w3.alloc (.cells #[.slice none 0 0] 30)) (.inr ⟨p, hgp, HTP.out, HPS.out, .inr ⟨q, hgq, HTQ.out, .inr ⟨HSH.out, .inl ⟨rfl, rfl, fun h hg he => absurd he (hn3 h hg)⟩⟩⟩⟩) (b3.alloc b3.size _))
    clear b3 hn3 HP rp3 rq3 hrp3 hrq3
    go_wp2
    exact HF.out
  obtain ⟨ho, hc, rfl⟩ := owns_slice ho3.row
  have hrh0 := ho3.rd
  obtain ⟨hn, hhn⟩ : ∃ hn, hn = hv.length := ⟨_, rfl⟩
  rw [← hhn] at hrh0 ⊢
  obtain ⟨h, hh⟩ : ∃ h, h = hdat hv := ⟨_, rfl⟩
  have hhl : hn = h.length := by rw [hhn, hh]; simp [hdat]
  rw [← hh] at hrh0 hgh hth
  have HHL := Lib.hid hhl
  have HTH := Lib.hid hth
  have HONEH : Hid (∀ h', goodHint h' = true → str (hintText h') = g → h' = h) := fun h' hg he => hint_one hg hgh (he.trans hth.symm)
  have bC0 : Below w3.heap.size w3 (w3.alloc (.cells #[.slice ho hn hc] 30)) := (Below.refl _ _).alloc (Nat.le_refl _) _
  have S4 : VaW w (w3.alloc (.cells #[.slice ho hn hc] 30)) w1.heap.size w2.heap.size w3.heap.size [.int .i64 q.args, .int .i64 p.regs, .int .i64 q.data, .int .i64 p.slots, .slice po pn pc] [.int .i64 q.args, .int .i64 q.regs, .int .i64 q.data, .int .i64 q.slots, .slice qo qn qc] (.slice ho hn hc) := ⟨rp3.keep bC0, rq3.keep bC0, heap_alloc_new w3 _, b3.alloc b3.size _⟩
  have hrp4 := hrp3.keep bC0
  have hrq4 := hrq3.keep bC0
  have hrh4 := hrh0.keep bC0
  obtain ⟨hqr, hqa, hqd, hqsl⟩ := good_shape hgq
  have hadd : IntKind.i64.wrap (q.regs + q.slots) = q.regs + q.slots := by rw [IntKind.wrap_i64]; omega
  have qF := fun P' => rSuits_cps q.args p.regs q.data p.slots q.args q.regs q.data q.slots po qo ho pn pc qn qc hn hc h (w3.alloc (.cells #[.slice ho hn hc] 30)) hrh4 hadd P'
  have pp0 := fun o => (rp3.alloc o).cell (i := 0) rfl
  have pp1 := fun o => (rp3.alloc o).cell (i := 1) rfl
  have pp2 := fun o => (rp3.alloc o).cell (i := 2) rfl
  have pp3 := fun o => (rp3.alloc o).cell (i := 3) rfl
  have pp4 := fun o => (rp3.alloc o).cell (i := 4) rfl
  have qq0 := fun o => (rq3.alloc o).cell (i := 0) rfl
  have qq1 := fun o => (rq3.alloc o).cell (i := 1) rfl
  have qq2 := fun o => (rq3.alloc o).cell (i := 2) rfl
  have qq3 := fun o => (rq3.alloc o).cell (i := 3) rfl
  have qq4 := fun o => (rq3.alloc o).cell (i := 4) rfl
  have HS := Lib.hid S4
  have HRP := Lib.hid hrp4
  have HRQ := Lib.hid hrq4
  have HRH := Lib.hid hrh4
  clear ho3 hhn hh hhl hth hrh0 b3 bC0 hrp3 hrq3 hrp4 hrq4 hrh4 rp3 rq3 S4
  go_wp2_with fail
  refine qF _ ?_
  intro z w4 hz b4
  have HZ := Lib.hid hz
  have S5 := HS.out.next b4
  have hrp5 := HRP.out.keep b4
  have hrq5 := HRQ.out.keep b4
  have hrh5 := HRH.out.keep b4
  clear qF hz HS HRP HRQ HRH b4 pp0 pp1 pp2 pp3 pp4 qq0 qq1 qq2 qq3 qq4
  cases z with
  | false =>
    have HF := Lib.hid (HP.out 2 0 w4 (.inr ⟨p, hgp, HTP.out, HPS.out, .inr ⟨q, hgq, HTQ.out, .inr ⟨HSH.out, .inl ⟨rfl, rfl, fun h' hg he hsu => by
      rw [HONEH.out h' hg he] at hsu
      have := HZ.out.2 ⟨by rw [HQL.out]; exact hsu.1, fun b hb => by rw [HPL.out]; exact hsu.2 b hb⟩
      cases this⟩⟩⟩⟩) S5.low)
    clear S5 hrp5 hrq5 hrh5 HP
    go_wp2
    exact HF.out
  | true =>
  have HSU : Hid (suitsD p q h) := by
    have h1 := HZ.out.1 rfl
    rw [HQL.out, HPL.out] at h1
    exact h1
  have hh0 : 0 < h.length := by
    simp only [goodHint, Bool.and_eq_true, decide_eq_true_eq] at hgh
    omega
  have qS := fun P' => rStarts_cps q.args q.regs q.data q.slots qo ho qn qc hn hc h hh0 w4 hrh5 P'
  have qq0 := S5.rq.cell (i := 0) rfl
  have qq1 := S5.rq.cell (i := 1) rfl
  have qq2 := S5.rq.cell (i := 2) rfl
  have qq3 := S5.rq.cell (i := 3) rfl
  have qq4 := S5.rq.cell (i := 4) rfl
  have k0 := S5.rh.cell (i := 0) rfl
  have HS := Lib.hid S5
  have HRP := Lib.hid hrp5
  have HRQ := Lib.hid hrq5
  have HRH := Lib.hid hrh5
  clear S5 hrp5 hrq5 hrh5 HZ
  go_wp2_with fail
  refine qS _ ?_
  intro z w5 hz b6
  have HZ := Lib.hid hz
  have S6 := HS.out.next b6
  have hrp6 := HRP.out.keep b6
  have hrq6 := HRQ.out.keep b6
  have hrh6 := HRH.out.keep b6
  clear qS hz HS HRP HRQ HRH b6 qq0 qq1 qq2 qq3 qq4 k0
  have HJ : Hid (∀ e n w', JudgedD p q h e n → Below w.heap.size w w' → Post (.returned (.tuple #[.int .i64 e, .int .i64 n])) w') := fun e n w' hj hb' =>
    HP.out e n w' (.inr ⟨p, hgp, HTP.out, HPS.out, .inr ⟨q, hgq, HTQ.out, .inr ⟨HSH.out, .inr ⟨h, hgh, HTH.out, HSU.out, hj⟩⟩⟩⟩) hb'
  cases z with
  | false =>
    have HF := Lib.hid (HJ.out 9 0 w5 (.inl ⟨rfl, rfl, fun hq => by have := HZ.out.2 hq; cases this⟩) S6.low)
    clear S6 hrp6 hrq6 hrh6 HP HJ
    go_wp2
    exact HF.out
  | true =>
  have HSTT : Hid (startsD q h) := HZ.out.1 rfl
  have HS := Lib.hid S6
  have HRP := Lib.hid hrp6
  have HRQ := Lib.hid hrq6
  have HRH := Lib.hid hrh6
  have HT := Lib.hid htab
  have HIN : Hid (∀ d, d < h.length → ∀ x ∈ hpairs h d, (0 ≤ x.reg ∧ x.reg ≤ p.regs + p.slots) ∧ (0 ≤ x.place ∧ x.place ≤ q.regs + q.slots)) := fun d hd x hx => by
    have h1 := (HSU.out.2 d hd).2 x hx
    have h2 := (goodHint_at hgh hd).2 x hx
    omega
  have hq6 : qn ≤ 6 := by rw [HQL.out]; exact (progGood_len hgq).2
  clear S6 hrp6 hrq6 hrh6 HZ HP htab
  go_wp2
  go_loopw [12] (fun i wr => ∃ (k : Nat), k ≤ qn ∧ i = .int .i64 k ∧ VaW w wr w1.heap.size w2.heap.size w3.heap.size [.int .i64 q.args, .int .i64 p.regs, .int .i64 q.data, .int .i64 p.slots, .slice po pn pc] [.int .i64 q.args, .int .i64 q.regs, .int .i64 q.data, .int .i64 q.slots, .slice qo qn qc] (.slice ho hn hc) ∧ Below w5.heap.size w5 wr ∧ Hid (∀ c, c < k → wrongD p q h c = 0))
    (fun i _ => qn - (intOf i).toNat)
  case atStart => exact ⟨0, Nat.zero_le _, rfl, HS.out, Below.refl _ _, fun j hj => by omega⟩
  case round =>
    clear HS
    obtain ⟨k, hk, rfl, S, hbel, hall⟩ := hrel
    have z4 := S.rq.cell (i := 4) rfl
    by_cases hlt : k < qn
    · have hkq : k < q.blocks.length := by rw [← HQL.out]; exact hlt
      have hkh : k < h.length := by rw [HSU.out.1]; exact hkq
      obtain ⟨hg', hoff, xv, hgo, g0, g1, g2⟩ := hint_at (h := h) (ho := ho) (hc := hc) (w := w5) (by rw [← HHL.out]; exact HRH.out) hkh
      subst hgo
      obtain ⟨so, sc, hsv, _, _⟩ := id g2
      obtain ⟨sn, hsn⟩ : ∃ sn, sn = (hpairs h k).length := ⟨_, rfl⟩
      rw [← hsn] at hsv
      subst hsv
      have hs0 := (goodHint_at hgh hkh).1
      obtain ⟨sb, hsb⟩ := Int.eq_ofNat_of_zero_le hs0
      have hsl := (HSU.out.2 k hkh).1
      have hsbp : sb < p.blocks.length := by omega
      rw [hsb] at g0
      have y0 := cell_keep hbel g0
      have y1 := cell_keep hbel g1
      have hki : (0 : Int) ≤ (k : Int) := by omega
      have hkj : (k : Int) < (qn : Int) := by omega
      have hkn : (k : Int) < (hn : Int) := by have := HHL.out; omega
      have k0 := S.rh.cell (i := 0) rfl
      obtain ⟨W1, hW1⟩ : ∃ W, W = wr.alloc (.cells #[.int .i64 (sb : Int), .slice so sn sc] 33) := ⟨_, rfl⟩
      have bW1 : Below wr.heap.size wr W1 := by subst hW1; exact (Below.refl _ _).alloc (Nat.le_refl _) _
      have rX : Row W1 wr.heap.size 33 [.int .i64 (sb : Int), .slice so sn sc] := by subst hW1; exact heap_alloc_new wr _
      have SW := S.next bW1
      have q1 := fun P' => rPlain_cps p po pn pc sb W1 ⟨by omega, hpr.2⟩ hpsl P'
      unfold progV at q1
      rw [HSH.out.1, HSH.out.2] at q1
      unfold viewV at q1
      rw [HSH.out.1, HSH.out.2] at q1
      have pp0 := SW.rp.cell (i := 0) rfl
      have pp1 := SW.rp.cell (i := 1) rfl
      have pp2 := SW.rp.cell (i := 2) rfl
      have pp3 := SW.rp.cell (i := 3) rfl
      have pp4 := SW.rp.cell (i := 4) rfl
      rw [hW1] at q1 pp0 pp1 pp2 pp3 pp4
      have HW1 := Lib.hid hW1
      have HX := Lib.hid rX
      have HSW := Lib.hid SW
      have HBW := Lib.hid (hbel.trans (bW1.mono hbel.size))
      have HSB := Lib.hid hsb
      have HG2 := Lib.hid g2
      have HLT := Lib.hid (And.intro hkq (And.intro hkh hsbp))
      clear hW1 rX SW bW1 S hbel g0 g1 g2 hsn hs0 hsb hsl hkq hkh hsbp
      go_wp2_with fail
      refine q1 _ ?_
      intro nv w6 own6 b6
      obtain ⟨no1, nc1, rfl⟩ := owns_slice own6
      obtain ⟨nn1, hnn1⟩ : ∃ n, n = (plainNames p.regs p.slots).length := ⟨_, rfl⟩
      have hrn := vw_rd own6
      rw [← hnn1] at hrn ⊢
      rw [← HW1.out] at b6
      have S6 := HSW.out.next b6
      have rX6 := HX.out.keep b6
      have bb6 := HBW.out.trans (b6.mono HBW.out.size)
      obtain ⟨W2, hW2⟩ : ∃ W, W = w6.alloc (.cells #[.int .i64 q.args, .int .i64 p.regs, .int .i64 q.data, .int .i64 p.slots, .slice po pn pc, .int .i64 (sb : Int), .slice no1 nn1 nc1] 164) := ⟨_, rfl⟩
      have bW2 : Below w6.heap.size w6 W2 := by subst hW2; exact (Below.refl _ _).alloc (Nat.le_refl _) _
      have rV : Row W2 w6.heap.size 164 [.int .i64 q.args, .int .i64 p.regs, .int .i64 q.data, .int .i64 p.slots, .slice po pn pc, .int .i64 (sb : Int), .slice no1 nn1 nc1] := by subst hW2; exact heap_alloc_new w6 _
      have S7 := S6.next bW2
      have rX7 := rX6.keep bW2
      have bb7 := bb6.trans (bW2.mono bb6.size)
      have hrn7 := hrn.keep bW2
      have q2 := fun P' => rNamed_cps q qo qn qc k (sb : Int) so sn sc (hpairs h k) W2 (HG2.out.keep bb7) (hint_apart hgh HLT.out.2.1) ⟨by omega, hqr.2⟩ hqsl P'
      unfold progV viewV at q2
      have qq0 := S7.rq.cell (i := 0) rfl
      have qq1 := S7.rq.cell (i := 1) rfl
      have qq2 := S7.rq.cell (i := 2) rfl
      have qq3 := S7.rq.cell (i := 3) rfl
      have qq4 := S7.rq.cell (i := 4) rfl
      have x0 := rX7.cell (i := 0) rfl
      have x1 := rX7.cell (i := 1) rfl
      rw [hW2] at q2 qq0 qq1 qq2 qq3 qq4 x0 x1
      have HW2 := Lib.hid hW2
      have HV := Lib.hid rV
      have HS7 := Lib.hid S7
      have HB7 := Lib.hid bb7
      have HN1 := Lib.hid hrn7
      clear q1 own6 b6 hrn S6 rX6 bb6 hW2 bW2 rV S7 rX7 bb7 hrn7 hnn1 HSW HX HBW HW1 pp0 pp1 pp2 pp3 pp4 y0 y1 k0 z4
      go_wp2_with fail
      refine q2 _ ?_
      intro nv w8 own8 b8
      obtain ⟨no2, nc2, rfl⟩ := owns_slice own8
      have hln : (namesOf (hpairs h k) (q.regs + q.slots).toNat).length = (q.regs + q.slots).toNat := names_length _ _
      have hrn8 := vw_rdn own8 hln
      obtain ⟨nn2, hnn2⟩ : ∃ n, n = (q.regs + q.slots).toNat := ⟨_, rfl⟩
      obtain ⟨NM, hNM⟩ : ∃ NM, NM = namesOf (hpairs h k) (q.regs + q.slots).toNat := ⟨_, rfl⟩
      rw [← hNM] at hrn8
      rw [← hnn2] at hrn8 ⊢
      rw [← HW2.out] at b8
      have S8 := HS7.out.next b8
      have rV8 := HV.out.keep b8
      have bb8 := HB7.out.trans (b8.mono HB7.out.size)
      obtain ⟨W3, hW3⟩ : ∃ W, W = w8.alloc (.cells #[.int .i64 q.args, .int .i64 q.regs, .int .i64 q.data, .int .i64 q.slots, .slice qo qn qc, .int .i64 k, .slice no2 nn2 nc2] 164) := ⟨_, rfl⟩
      have bW3 : Below w8.heap.size w8 W3 := by subst hW3; exact (Below.refl _ _).alloc (Nat.le_refl _) _
      have rU : Row W3 w8.heap.size 164 [.int .i64 q.args, .int .i64 q.regs, .int .i64 q.data, .int .i64 q.slots, .slice qo qn qc, .int .i64 k, .slice no2 nn2 nc2] := by subst hW3; exact heap_alloc_new w8 _
      have S9 := S8.next bW3
      have rV9 := rV8.keep bW3
      have bb9 := bb8.trans (bW3.mono bb8.size)
      have VF1 : VwF W3 p (.slice po pn pc) (.slice no1 nn1 nc1) sb (plainNames p.regs p.slots) := ⟨⟨HRP.out.keep bb9, (HN1.out.keep b8).keep bW3, HT.out.keep S9.low⟩, hgp, HLT.out.2.2, plain_le _ _ (by omega)⟩
      have VF2 : VwF W3 q (.slice qo qn qc) (.slice no2 nn2 nc2) k (namesOf (hpairs h k) (q.regs + q.slots).toNat) := ⟨⟨HRQ.out.keep bb9, by rw [← hNM]; exact hrn8.keep bW3, HT.out.keep S9.low⟩, hgq, HLT.out.1, names_small (fun x hx => by have := (HSU.out.2 k HLT.out.2.1).2 x hx; omega) _⟩
      have q3 := fun P' => rWrong_cps p q po no1 qo no2 pn pc nn1 nc1 qn qc nn2 nc2 sb k _ _ h (some ⟨hg', hoff, none⟩) hn hc W3 VF1 VF2 (HRH.out.keep bb9) HIN.out (by rw [HSU.out.1]) P'
      unfold viewV at q3
      rw [HSH.out.1, HSH.out.2] at q3
      have HEQ : Hid (refD p q (plainNames p.regs p.slots) (namesOf (hpairs h k) (q.regs + q.slots).toNat) sb k h = wrongD p q h k) := by
        show _ = _
        have := ref_wrong (p := p) (q := q) (h := h) (b := k) HPS.out (marks_iff hgp hgq HPS.out HSU.out hgh HLT.out.1)
        rw [HSB.out] at this
        exact this
      have c0 := rV9.cell (i := 0) rfl
      have c1 := rV9.cell (i := 1) rfl
      have c2 := rV9.cell (i := 2) rfl
      have c3 := rV9.cell (i := 3) rfl
      have c4 := rV9.cell (i := 4) rfl
      have c5 := rV9.cell (i := 5) rfl
      have c6 := rV9.cell (i := 6) rfl
      have d0 := rU.cell (i := 0) rfl
      have d1 := rU.cell (i := 1) rfl
      have d2 := rU.cell (i := 2) rfl
      have d3 := rU.cell (i := 3) rfl
      have d4 := rU.cell (i := 4) rfl
      have d5 := rU.cell (i := 5) rfl
      have d6 := rU.cell (i := 6) rfl
      have k0 := S9.rh.cell (i := 0) rfl
      rw [hW3] at q3 k0 c0 d0 c1 d1 c2 d2 c3 d3 c4 d4 c5 d5 c6 d6
      have HS9 := Lib.hid S9
      have HB9 := Lib.hid bb9
      rw [hW3] at HS9 HB9
      clear q2 own8 b8 hrn8 S8 rV8 bb8 hW3 bW3 rU S9 rV9 bb9 VF1 VF2 hnn2 hln hNM HV HS7 HB7 HN1 HW2 qq0 qq1 qq2 qq3 qq4 x0 x1
      go_wp2_with fail
      refine q3 _ ?_
      intro e w10 he b10
      have HE : Hid (wrongD p q h k = e) := by show _ = _; rw [← HEQ.out]; exact he
      have S10 := HS9.out.next b10
      have bb10 := HB9.out.trans (b10.mono HB9.out.size)
      clear q3 he b10 HEQ HS9 HB9 k0 c0 d0 c1 d1 c2 d2 c3 d3 c4 d4 c5 d5 c6 d6
      by_cases h0 : e = 0
      · subst h0
        have hall2 : Hid (∀ c, c < k + 1 → wrongD p q h c = 0) := fun c hc' => by
          by_cases ec : c = k
          · rw [ec]; exact HE.out
          · exact hall.out c (by omega)
        clear hall HE
        go_wp2
        go_roundw
        case rel => exact ⟨k + 1, by omega, by go_num, S10, bb10, hall2⟩
        case measure => simp [intOf]; omega
      · have hq : (e == 0) = false := by rw [beq_eq_false_iff_ne]; exact h0
        have HF := Lib.hid (HJ.out e k w10 (.inr ⟨HSTT.out, .inl ⟨k, HLT.out.1, rfl, HE.out.symm, h0, hall.out⟩⟩) S10.low)
        clear hall HE HJ S10 bb10 h0
        go_wp2
        exact HF.out
    · obtain rfl : k = qn := by omega
      have HF := Lib.hid (HJ.out 0 0 wr (.inr ⟨HSTT.out, .inr ⟨rfl, rfl, fun c hc' => hall.out c (by rw [HQL.out]; exact hc')⟩⟩) S.low)
      clear hall HJ S hbel
      go_wp2
      exact HF.out

end Go.Proofs.YtblhmeidbjigaabGreatDoor

/- The laws Terms and Verdicts, as they are called by All. -/
set_option linter.unusedSimpArgs false
set_option linter.unusedVariables false
namespace Go.Proofs.YtblhmeidbjigaabGreatDoor
open Go.RowKit

set_option maxRecDepth 100000 in
set_option maxHeartbeats 1000000 in
theorem aTerm_any (s : ByteArray) (block place : Int) (w : World) (hs : s.size ≤ maxLen) (htab : TabW w) :
    Calls Tryz.prog 86 #[.string s, .int .i64 block, .int .i64 place] w fun e w' => ∃ t er, e = .returned (.tuple #[.string (str t), .int .i64 er]) ∧ TermAns s block place t er ∧ Below w.heap.size w w' := by
  have hc := cTermOf_any s block place w hs htab
  go_enter Tryz.func86, Tryz.ntmps86
  go_wp2_with fail
  refine hc.mono ?_
  rintro e w1 ⟨t, er, rfl, ha, hb⟩
  have HA := Lib.hid ha
  have HB := Lib.hid hb
  clear hc ha hb
  generalize hT : str t = T
  go_wp2
  go_ret2
  exact ⟨t, er, by subst hT; rfl, HA.out, HB.out⟩

set_option maxRecDepth 100000 in
set_option maxHeartbeats 1000000 in
theorem aTerms_any (s : ByteArray) (block place : Int) (w : World) (hs : s.size ≤ maxLen) (htab : TabW w) :
    Calls Tryz.prog 46 #[.string s, .int .i64 block, .int .i64 place] w fun e w' => e = .returned (.bool true) ∧ Below w.heap.size w w' := by
  have hc := aTerm_any s block place w hs htab
  go_enter Tryz.func46, Tryz.ntmps46
  go_wp2_with fail
  refine hc.mono ?_
  rintro e w1 ⟨t, er, rfl, ha, hb⟩
  have hr := rTermOf_any s block place w1 hs (htab.keep hb)
  have HA := Lib.hid ha
  have HB := Lib.hid hb
  clear hc ha hb
  go_wp2_with fail
  refine hr.mono ?_
  rintro e w2 ⟨u, fr, rfl, ha, hb⟩
  obtain ⟨rfl, rfl⟩ := HA.out.one ha
  have HB2 := Lib.hid (HB.out.trans (hb.mono HB.out.size))
  have hq : ((str t).toList == (str t).toList) = true := by simp
  have he : (er == er) = true := by simp
  clear hr ha hb HA HB
  generalize str t = T at *
  go_wp2
  go_ret
  exact ⟨rfl, HB2.out⟩

set_option maxRecDepth 100000 in
set_option maxHeartbeats 1000000 in
theorem aVerdicts_cps (s t g : ByteArray) (w : World) (hs : s.size ≤ maxLen) (ht : t.size ≤ maxLen) (hg : g.size ≤ maxLen) (htab : TabW w) (Post : Ending → World → Prop)
    (hp : ∀ w', Below w.heap.size w w' → Post (.returned (.bool true)) w') :
    Calls Tryz.prog 48 #[.string s, .string t, .string g] w Post := by
  have q1 := fun P' => tVal_cps s t g w hs ht hg htab P'
  have HP := Lib.hid hp
  clear hp
  go_enter Tryz.func48, Tryz.ntmps48
  go_wp2_with fail
  refine q1 _ ?_
  intro e n w1 ha hb
  have q2 := fun P' => rVal_cps s t g w1 hs ht hg (htab.keep hb) P'
  have HA := Lib.hid ha
  have HB := Lib.hid hb
  clear q1 ha hb
  go_wp2_with fail
  refine q2 _ ?_
  intro f m w2 ha hb
  obtain ⟨rfl, rfl⟩ := HA.out.one ha
  have HF := Lib.hid (HP.out w2 (HB.out.trans (hb.mono HB.out.size)))
  have he : (e == e) = true := by simp
  have hn : (n == n) = true := by simp
  clear q2 ha hb HA HB HP
  go_wp2
  exact HF.out

end Go.Proofs.YtblhmeidbjigaabGreatDoor

/- The steps of All that let nothing out: Encode, EncodeHint, Term, Validate. -/
set_option linter.unusedSimpArgs false
set_option linter.unusedVariables false
namespace Go.Proofs.YtblhmeidbjigaabGreatDoor
open Go.RowKit Go.Deep

set_option maxRecDepth 100000 in
set_option maxHeartbeats 1500000 in
theorem step_1 (w0 w : World) (n : Nat) (o : StepD) (val : Nat → Value) (cnt : Nat → Nat) (cel : Nat → List Value) (ps : List PI) (hs : List HI) (os : List OI) (ms : List MI) (h : ASt w0 w n val cnt cel ps hs os ms) (hok : OkStep w0 o) (hn9 : n ≤ 628292358710) (htab : TabW w0) (Post : Ending → World → Prop) (hk : o.kind = 1)
    (hp : ∀ w' val' cnt' cel' ps' hs' os' ms', ASt w0 w' (n + 1) val' cnt' cel' ps' hs' os' ms' → Post (.returned (.bool true)) w') :
    Calls Tryz.prog 28 #[.pointer (some ⟨w0.heap.size, 0, none⟩), .agg (stepC o).toArray] w Post := by
  obtain ⟨kd, s, t, hh, a0, a1, a2, a3, pv, bl, hv, hl, av, mv, sv, la, lm, ls, a, b⟩ := o
  dsimp only at hk
  subst hk
  obtain ⟨zs, zt, zh, kp, kpl, kpo, kg, kgl, kgo, kra, krm, krs, kla, klm, kls⟩ := hok
  dsimp only at zs zt zh kp kpl kpo kg kgl kgo kra krm krs kla klm kls
  obtain ⟨po, pc, rfl, _, _⟩ := id kp
  obtain ⟨ho, hc, rfl, _, _⟩ := id kg
  obtain ⟨ao, ac, rfl, _, _⟩ := id kra
  obtain ⟨mo, mc, rfl, _, _⟩ := id krm
  obtain ⟨so, sc, rfl, _, _⟩ := id krs
  obtain ⟨bn, hbn⟩ : ∃ x, x = bl.length := ⟨_, rfl⟩
  obtain ⟨hn, hhn⟩ : ∃ x, x = hl.length := ⟨_, rfl⟩
  obtain ⟨an, han⟩ : ∃ x, x = la.length := ⟨_, rfl⟩
  obtain ⟨mn, hmn⟩ : ∃ x, x = lm.length := ⟨_, rfl⟩
  obtain ⟨sn, hsn⟩ : ∃ x, x = ls.length := ⟨_, rfl⟩
  show Calls Tryz.prog 28 #[.pointer (some ⟨w0.heap.size, 0, none⟩), .agg #[.int .i64 1, .string s, .string t, .string hh, .int .i64 a0, .int .i64 a1, .int .i64 a2, .int .i64 a3, .slice po bl.length pc, .slice ho hl.length hc, .slice ao la.length ac, .slice mo lm.length mc, .slice so ls.length sc, .int .i64 a, .int .i64 b]] w Post
  rw [← hbn] at kp ⊢
  rw [← hhn] at kg ⊢
  rw [← han] at kra ⊢
  rw [← hmn] at krm ⊢
  rw [← hsn] at krs ⊢
  have hB : w0.heap.size < w.heap.size := h.mem.row.lt
  obtain ⟨W0, hW0⟩ : ∃ x, x = w.setCell ⟨w0.heap.size, 0, none⟩ (.int .i64 ((n : Int) + 1)) := ⟨_, rfl⟩
  have d0 : ∀ o, (w.alloc o).cell? ⟨w0.heap.size, 0, none⟩ = some (.int .i64 (n : Int)) := fun o => (h.mem.row.alloc o).cell (i := 0) rfl
  have g0 : ∀ o, (w.alloc o).frozen? ⟨w0.heap.size, 0, none⟩ = false := fun o => (h.mem.row.alloc o).frozen 0
  have d0' : w.cell? ⟨w0.heap.size, 0, none⟩ = some (.int .i64 (n : Int)) := h.mem.row.cell (i := 0) rfl
  have g0' : w.frozen? ⟨w0.heap.size, 0, none⟩ = false := h.mem.row.frozen 0
  have hA := h.count
  rw [← hW0] at hA
  obtain ⟨W1, hW1⟩ : ∃ x, x = W0.alloc (.cells #[.int .i64 1, .string s, .string t, .string hh, .int .i64 a0, .int .i64 a1, .int .i64 a2, .int .i64 a3, .slice po bn pc, .slice ho hn hc, .slice ao an ac, .slice mo mn mc, .slice so sn sc, .int .i64 a, .int .i64 b] 83) := ⟨_, rfl⟩
  have bA : Below W0.heap.size W0 W1 := by rw [hW1]; exact (Below.refl _ _).alloc (Nat.le_refl _) _
  have h1 := hA.keep bA
  have hz0 : W0.heap.size = w.heap.size := by rw [hW0]; simp
  have rS : Row W1 w.heap.size 83 [.int .i64 1, .string s, .string t, .string hh, .int .i64 a0, .int .i64 a1, .int .i64 a2, .int .i64 a3, .slice po bn pc, .slice ho hn hc, .slice ao an ac, .slice mo mn mc, .slice so sn sc, .int .i64 a, .int .i64 b] := by rw [← hz0, hW1]; exact heap_alloc_new W0 _
  have b1 : Below w0.heap.size w0 W1 := h1.below
  have hlp := h.lp
  have hlh := h.lh
  have hlo := h.lo
  have hlm := h.lm
  have hwn : IntKind.i64.wrap ((n : Int) + 1) = (n : Int) + 1 := by rw [IntKind.wrap_i64]; omega
  have HP := Lib.hid hp
  have H1 := Lib.hid h1
  clear hp h hA bA h1 hbn hhn han hmn hsn hz0
  have q1 := encoded_any a0 a1 a2 a3 (.slice po bn pc) bl W1 (kp.keep b1) kpl kpo
  have x0 := rS.cell (i := 0) rfl
  have x4 := rS.cell (i := 4) rfl
  have x5 := rS.cell (i := 5) rfl
  have x6 := rS.cell (i := 6) rfl
  have x7 := rS.cell (i := 7) rfl
  have x8 := rS.cell (i := 8) rfl
  rw [hW1, hW0] at x0 x4 x5 x6 x7 x8
  rw [hW1, hW0] at q1
  have HW : Hid (W1 = (w.setCell ⟨w0.heap.size, 0, none⟩ (.int .i64 ((n : Int) + 1))).alloc (.cells #[.int .i64 1, .string s, .string t, .string hh, .int .i64 a0, .int .i64 a1, .int .i64 a2, .int .i64 a3, .slice po bn pc, .slice ho hn hc, .slice ao an ac, .slice mo mn mc, .slice so sn sc, .int .i64 a, .int .i64 b] 83)) := by show _ = _; rw [hW1, hW0]
  clear rS hW0 hW1 b1 kp kpl kpo kg kgl kgo kra krm krs kla klm kls htab
  go_enter Tryz.func28, Tryz.ntmps28
  go_wp2_with fail
  refine q1.mono ?_
  rintro e w2 ⟨rfl, hb2⟩
  rw [← HW.out] at hb2
  clear q1
  have HF := Lib.hid (HP.out w2 _ _ _ _ _ _ _ (H1.out.keep hb2))
  clear HP H1 hb2
  go_wp2
  first | exact HF.out | (go_ret; exact HF.out)

set_option maxRecDepth 100000 in
set_option maxHeartbeats 1500000 in
theorem step_3 (w0 w : World) (n : Nat) (o : StepD) (val : Nat → Value) (cnt : Nat → Nat) (cel : Nat → List Value) (ps : List PI) (hs : List HI) (os : List OI) (ms : List MI) (h : ASt w0 w n val cnt cel ps hs os ms) (hok : OkStep w0 o) (hn9 : n ≤ 628292358710) (htab : TabW w0) (Post : Ending → World → Prop) (hk : o.kind = 3)
    (hp : ∀ w' val' cnt' cel' ps' hs' os' ms', ASt w0 w' (n + 1) val' cnt' cel' ps' hs' os' ms' → Post (.returned (.bool true)) w') :
    Calls Tryz.prog 28 #[.pointer (some ⟨w0.heap.size, 0, none⟩), .agg (stepC o).toArray] w Post := by
  obtain ⟨kd, s, t, hh, a0, a1, a2, a3, pv, bl, hv, hl, av, mv, sv, la, lm, ls, a, b⟩ := o
  dsimp only at hk
  subst hk
  obtain ⟨zs, zt, zh, kp, kpl, kpo, kg, kgl, kgo, kra, krm, krs, kla, klm, kls⟩ := hok
  dsimp only at zs zt zh kp kpl kpo kg kgl kgo kra krm krs kla klm kls
  obtain ⟨po, pc, rfl, _, _⟩ := id kp
  obtain ⟨ho, hc, rfl, _, _⟩ := id kg
  obtain ⟨ao, ac, rfl, _, _⟩ := id kra
  obtain ⟨mo, mc, rfl, _, _⟩ := id krm
  obtain ⟨so, sc, rfl, _, _⟩ := id krs
  obtain ⟨bn, hbn⟩ : ∃ x, x = bl.length := ⟨_, rfl⟩
  obtain ⟨hn, hhn⟩ : ∃ x, x = hl.length := ⟨_, rfl⟩
  obtain ⟨an, han⟩ : ∃ x, x = la.length := ⟨_, rfl⟩
  obtain ⟨mn, hmn⟩ : ∃ x, x = lm.length := ⟨_, rfl⟩
  obtain ⟨sn, hsn⟩ : ∃ x, x = ls.length := ⟨_, rfl⟩
  show Calls Tryz.prog 28 #[.pointer (some ⟨w0.heap.size, 0, none⟩), .agg #[.int .i64 3, .string s, .string t, .string hh, .int .i64 a0, .int .i64 a1, .int .i64 a2, .int .i64 a3, .slice po bl.length pc, .slice ho hl.length hc, .slice ao la.length ac, .slice mo lm.length mc, .slice so ls.length sc, .int .i64 a, .int .i64 b]] w Post
  rw [← hbn] at kp ⊢
  rw [← hhn] at kg ⊢
  rw [← han] at kra ⊢
  rw [← hmn] at krm ⊢
  rw [← hsn] at krs ⊢
  have hB : w0.heap.size < w.heap.size := h.mem.row.lt
  obtain ⟨W0, hW0⟩ : ∃ x, x = w.setCell ⟨w0.heap.size, 0, none⟩ (.int .i64 ((n : Int) + 1)) := ⟨_, rfl⟩
  have d0 : ∀ o, (w.alloc o).cell? ⟨w0.heap.size, 0, none⟩ = some (.int .i64 (n : Int)) := fun o => (h.mem.row.alloc o).cell (i := 0) rfl
  have g0 : ∀ o, (w.alloc o).frozen? ⟨w0.heap.size, 0, none⟩ = false := fun o => (h.mem.row.alloc o).frozen 0
  have d0' : w.cell? ⟨w0.heap.size, 0, none⟩ = some (.int .i64 (n : Int)) := h.mem.row.cell (i := 0) rfl
  have g0' : w.frozen? ⟨w0.heap.size, 0, none⟩ = false := h.mem.row.frozen 0
  have hA := h.count
  rw [← hW0] at hA
  obtain ⟨W1, hW1⟩ : ∃ x, x = W0.alloc (.cells #[.int .i64 3, .string s, .string t, .string hh, .int .i64 a0, .int .i64 a1, .int .i64 a2, .int .i64 a3, .slice po bn pc, .slice ho hn hc, .slice ao an ac, .slice mo mn mc, .slice so sn sc, .int .i64 a, .int .i64 b] 83) := ⟨_, rfl⟩
  have bA : Below W0.heap.size W0 W1 := by rw [hW1]; exact (Below.refl _ _).alloc (Nat.le_refl _) _
  have h1 := hA.keep bA
  have hz0 : W0.heap.size = w.heap.size := by rw [hW0]; simp
  have rS : Row W1 w.heap.size 83 [.int .i64 3, .string s, .string t, .string hh, .int .i64 a0, .int .i64 a1, .int .i64 a2, .int .i64 a3, .slice po bn pc, .slice ho hn hc, .slice ao an ac, .slice mo mn mc, .slice so sn sc, .int .i64 a, .int .i64 b] := by rw [← hz0, hW1]; exact heap_alloc_new W0 _
  have b1 : Below w0.heap.size w0 W1 := h1.below
  have hlp := h.lp
  have hlh := h.lh
  have hlo := h.lo
  have hlm := h.lm
  have hwn : IntKind.i64.wrap ((n : Int) + 1) = (n : Int) + 1 := by rw [IntKind.wrap_i64]; omega
  have HP := Lib.hid hp
  have H1 := Lib.hid h1
  clear hp h hA bA h1 hbn hhn han hmn hsn hz0
  have q1 := hinted_any (.slice ho hn hc) hl W1 (kg.keep b1) kgl kgo
  have x0 := rS.cell (i := 0) rfl
  have x9 := rS.cell (i := 9) rfl
  rw [hW1, hW0] at x0 x9
  rw [hW1, hW0] at q1
  have HW : Hid (W1 = (w.setCell ⟨w0.heap.size, 0, none⟩ (.int .i64 ((n : Int) + 1))).alloc (.cells #[.int .i64 3, .string s, .string t, .string hh, .int .i64 a0, .int .i64 a1, .int .i64 a2, .int .i64 a3, .slice po bn pc, .slice ho hn hc, .slice ao an ac, .slice mo mn mc, .slice so sn sc, .int .i64 a, .int .i64 b] 83)) := by show _ = _; rw [hW1, hW0]
  clear rS hW0 hW1 b1 kp kpl kpo kg kgl kgo kra krm krs kla klm kls htab
  go_enter Tryz.func28, Tryz.ntmps28
  go_wp2_with fail
  refine q1.mono ?_
  rintro e w2 ⟨rfl, hb2⟩
  rw [← HW.out] at hb2
  clear q1
  have HF := Lib.hid (HP.out w2 _ _ _ _ _ _ _ (H1.out.keep hb2))
  clear HP H1 hb2
  go_wp2
  first | exact HF.out | (go_ret; exact HF.out)

set_option maxRecDepth 100000 in
set_option maxHeartbeats 1500000 in
theorem step_6 (w0 w : World) (n : Nat) (o : StepD) (val : Nat → Value) (cnt : Nat → Nat) (cel : Nat → List Value) (ps : List PI) (hs : List HI) (os : List OI) (ms : List MI) (h : ASt w0 w n val cnt cel ps hs os ms) (hok : OkStep w0 o) (hn9 : n ≤ 628292358710) (htab : TabW w0) (Post : Ending → World → Prop) (hk : o.kind = 6)
    (hp : ∀ w' val' cnt' cel' ps' hs' os' ms', ASt w0 w' (n + 1) val' cnt' cel' ps' hs' os' ms' → Post (.returned (.bool true)) w') :
    Calls Tryz.prog 28 #[.pointer (some ⟨w0.heap.size, 0, none⟩), .agg (stepC o).toArray] w Post := by
  obtain ⟨kd, s, t, hh, a0, a1, a2, a3, pv, bl, hv, hl, av, mv, sv, la, lm, ls, a, b⟩ := o
  dsimp only at hk
  subst hk
  obtain ⟨zs, zt, zh, kp, kpl, kpo, kg, kgl, kgo, kra, krm, krs, kla, klm, kls⟩ := hok
  dsimp only at zs zt zh kp kpl kpo kg kgl kgo kra krm krs kla klm kls
  obtain ⟨po, pc, rfl, _, _⟩ := id kp
  obtain ⟨ho, hc, rfl, _, _⟩ := id kg
  obtain ⟨ao, ac, rfl, _, _⟩ := id kra
  obtain ⟨mo, mc, rfl, _, _⟩ := id krm
  obtain ⟨so, sc, rfl, _, _⟩ := id krs
  obtain ⟨bn, hbn⟩ : ∃ x, x = bl.length := ⟨_, rfl⟩
  obtain ⟨hn, hhn⟩ : ∃ x, x = hl.length := ⟨_, rfl⟩
  obtain ⟨an, han⟩ : ∃ x, x = la.length := ⟨_, rfl⟩
  obtain ⟨mn, hmn⟩ : ∃ x, x = lm.length := ⟨_, rfl⟩
  obtain ⟨sn, hsn⟩ : ∃ x, x = ls.length := ⟨_, rfl⟩
  show Calls Tryz.prog 28 #[.pointer (some ⟨w0.heap.size, 0, none⟩), .agg #[.int .i64 6, .string s, .string t, .string hh, .int .i64 a0, .int .i64 a1, .int .i64 a2, .int .i64 a3, .slice po bl.length pc, .slice ho hl.length hc, .slice ao la.length ac, .slice mo lm.length mc, .slice so ls.length sc, .int .i64 a, .int .i64 b]] w Post
  rw [← hbn] at kp ⊢
  rw [← hhn] at kg ⊢
  rw [← han] at kra ⊢
  rw [← hmn] at krm ⊢
  rw [← hsn] at krs ⊢
  have hB : w0.heap.size < w.heap.size := h.mem.row.lt
  obtain ⟨W0, hW0⟩ : ∃ x, x = w.setCell ⟨w0.heap.size, 0, none⟩ (.int .i64 ((n : Int) + 1)) := ⟨_, rfl⟩
  have d0 : ∀ o, (w.alloc o).cell? ⟨w0.heap.size, 0, none⟩ = some (.int .i64 (n : Int)) := fun o => (h.mem.row.alloc o).cell (i := 0) rfl
  have g0 : ∀ o, (w.alloc o).frozen? ⟨w0.heap.size, 0, none⟩ = false := fun o => (h.mem.row.alloc o).frozen 0
  have d0' : w.cell? ⟨w0.heap.size, 0, none⟩ = some (.int .i64 (n : Int)) := h.mem.row.cell (i := 0) rfl
  have g0' : w.frozen? ⟨w0.heap.size, 0, none⟩ = false := h.mem.row.frozen 0
  have hA := h.count
  rw [← hW0] at hA
  obtain ⟨W1, hW1⟩ : ∃ x, x = W0.alloc (.cells #[.int .i64 6, .string s, .string t, .string hh, .int .i64 a0, .int .i64 a1, .int .i64 a2, .int .i64 a3, .slice po bn pc, .slice ho hn hc, .slice ao an ac, .slice mo mn mc, .slice so sn sc, .int .i64 a, .int .i64 b] 83) := ⟨_, rfl⟩
  have bA : Below W0.heap.size W0 W1 := by rw [hW1]; exact (Below.refl _ _).alloc (Nat.le_refl _) _
  have h1 := hA.keep bA
  have hz0 : W0.heap.size = w.heap.size := by rw [hW0]; simp
  have rS : Row W1 w.heap.size 83 [.int .i64 6, .string s, .string t, .string hh, .int .i64 a0, .int .i64 a1, .int .i64 a2, .int .i64 a3, .slice po bn pc, .slice ho hn hc, .slice ao an ac, .slice mo mn mc, .slice so sn sc, .int .i64 a, .int .i64 b] := by rw [← hz0, hW1]; exact heap_alloc_new W0 _
  have b1 : Below w0.heap.size w0 W1 := h1.below
  have hlp := h.lp
  have hlh := h.lh
  have hlo := h.lo
  have hlm := h.lm
  have hwn : IntKind.i64.wrap ((n : Int) + 1) = (n : Int) + 1 := by rw [IntKind.wrap_i64]; omega
  have HP := Lib.hid hp
  have H1 := Lib.hid h1
  clear hp h hA bA h1 hbn hhn han hmn hsn hz0
  have q1 := aTerms_any s a b W1 zs (htab.keep b1)
  have x0 := rS.cell (i := 0) rfl
  have x1 := rS.cell (i := 1) rfl
  have x13 := rS.cell (i := 13) rfl
  have x14 := rS.cell (i := 14) rfl
  rw [hW1, hW0] at x0 x1 x13 x14
  rw [hW1, hW0] at q1
  have HW : Hid (W1 = (w.setCell ⟨w0.heap.size, 0, none⟩ (.int .i64 ((n : Int) + 1))).alloc (.cells #[.int .i64 6, .string s, .string t, .string hh, .int .i64 a0, .int .i64 a1, .int .i64 a2, .int .i64 a3, .slice po bn pc, .slice ho hn hc, .slice ao an ac, .slice mo mn mc, .slice so sn sc, .int .i64 a, .int .i64 b] 83)) := by show _ = _; rw [hW1, hW0]
  clear rS hW0 hW1 b1 kp kpl kpo kg kgl kgo kra krm krs kla klm kls htab
  go_enter Tryz.func28, Tryz.ntmps28
  go_wp2_with fail
  refine q1.mono ?_
  rintro e w2 ⟨rfl, hb2⟩
  rw [← HW.out] at hb2
  clear q1
  have HF := Lib.hid (HP.out w2 _ _ _ _ _ _ _ (H1.out.keep hb2))
  clear HP H1 hb2
  go_wp2
  first | exact HF.out | (go_ret; exact HF.out)

set_option maxRecDepth 100000 in
set_option maxHeartbeats 1500000 in
theorem step_8 (w0 w : World) (n : Nat) (o : StepD) (val : Nat → Value) (cnt : Nat → Nat) (cel : Nat → List Value) (ps : List PI) (hs : List HI) (os : List OI) (ms : List MI) (h : ASt w0 w n val cnt cel ps hs os ms) (hok : OkStep w0 o) (hn9 : n ≤ 628292358710) (htab : TabW w0) (Post : Ending → World → Prop) (hk : o.kind = 8)
    (hp : ∀ w' val' cnt' cel' ps' hs' os' ms', ASt w0 w' (n + 1) val' cnt' cel' ps' hs' os' ms' → Post (.returned (.bool true)) w') :
    Calls Tryz.prog 28 #[.pointer (some ⟨w0.heap.size, 0, none⟩), .agg (stepC o).toArray] w Post := by
  obtain ⟨kd, s, t, hh, a0, a1, a2, a3, pv, bl, hv, hl, av, mv, sv, la, lm, ls, a, b⟩ := o
  dsimp only at hk
  subst hk
  obtain ⟨zs, zt, zh, kp, kpl, kpo, kg, kgl, kgo, kra, krm, krs, kla, klm, kls⟩ := hok
  dsimp only at zs zt zh kp kpl kpo kg kgl kgo kra krm krs kla klm kls
  obtain ⟨po, pc, rfl, _, _⟩ := id kp
  obtain ⟨ho, hc, rfl, _, _⟩ := id kg
  obtain ⟨ao, ac, rfl, _, _⟩ := id kra
  obtain ⟨mo, mc, rfl, _, _⟩ := id krm
  obtain ⟨so, sc, rfl, _, _⟩ := id krs
  obtain ⟨bn, hbn⟩ : ∃ x, x = bl.length := ⟨_, rfl⟩
  obtain ⟨hn, hhn⟩ : ∃ x, x = hl.length := ⟨_, rfl⟩
  obtain ⟨an, han⟩ : ∃ x, x = la.length := ⟨_, rfl⟩
  obtain ⟨mn, hmn⟩ : ∃ x, x = lm.length := ⟨_, rfl⟩
  obtain ⟨sn, hsn⟩ : ∃ x, x = ls.length := ⟨_, rfl⟩
  show Calls Tryz.prog 28 #[.pointer (some ⟨w0.heap.size, 0, none⟩), .agg #[.int .i64 8, .string s, .string t, .string hh, .int .i64 a0, .int .i64 a1, .int .i64 a2, .int .i64 a3, .slice po bl.length pc, .slice ho hl.length hc, .slice ao la.length ac, .slice mo lm.length mc, .slice so ls.length sc, .int .i64 a, .int .i64 b]] w Post
  rw [← hbn] at kp ⊢
  rw [← hhn] at kg ⊢
  rw [← han] at kra ⊢
  rw [← hmn] at krm ⊢
  rw [← hsn] at krs ⊢
  have hB : w0.heap.size < w.heap.size := h.mem.row.lt
  obtain ⟨W0, hW0⟩ : ∃ x, x = w.setCell ⟨w0.heap.size, 0, none⟩ (.int .i64 ((n : Int) + 1)) := ⟨_, rfl⟩
  have d0 : ∀ o, (w.alloc o).cell? ⟨w0.heap.size, 0, none⟩ = some (.int .i64 (n : Int)) := fun o => (h.mem.row.alloc o).cell (i := 0) rfl
  have g0 : ∀ o, (w.alloc o).frozen? ⟨w0.heap.size, 0, none⟩ = false := fun o => (h.mem.row.alloc o).frozen 0
  have d0' : w.cell? ⟨w0.heap.size, 0, none⟩ = some (.int .i64 (n : Int)) := h.mem.row.cell (i := 0) rfl
  have g0' : w.frozen? ⟨w0.heap.size, 0, none⟩ = false := h.mem.row.frozen 0
  have hA := h.count
  rw [← hW0] at hA
  obtain ⟨W1, hW1⟩ : ∃ x, x = W0.alloc (.cells #[.int .i64 8, .string s, .string t, .string hh, .int .i64 a0, .int .i64 a1, .int .i64 a2, .int .i64 a3, .slice po bn pc, .slice ho hn hc, .slice ao an ac, .slice mo mn mc, .slice so sn sc, .int .i64 a, .int .i64 b] 83) := ⟨_, rfl⟩
  have bA : Below W0.heap.size W0 W1 := by rw [hW1]; exact (Below.refl _ _).alloc (Nat.le_refl _) _
  have h1 := hA.keep bA
  have hz0 : W0.heap.size = w.heap.size := by rw [hW0]; simp
  have rS : Row W1 w.heap.size 83 [.int .i64 8, .string s, .string t, .string hh, .int .i64 a0, .int .i64 a1, .int .i64 a2, .int .i64 a3, .slice po bn pc, .slice ho hn hc, .slice ao an ac, .slice mo mn mc, .slice so sn sc, .int .i64 a, .int .i64 b] := by rw [← hz0, hW1]; exact heap_alloc_new W0 _
  have b1 : Below w0.heap.size w0 W1 := h1.below
  have hlp := h.lp
  have hlh := h.lh
  have hlo := h.lo
  have hlm := h.lm
  have hwn : IntKind.i64.wrap ((n : Int) + 1) = (n : Int) + 1 := by rw [IntKind.wrap_i64]; omega
  have HP := Lib.hid hp
  have H1 := Lib.hid h1
  clear hp h hA bA h1 hbn hhn han hmn hsn hz0
  have q1 := fun P' => aVerdicts_cps s t hh W1 zs zt zh (htab.keep b1) P'
  have x0 := rS.cell (i := 0) rfl
  have x1 := rS.cell (i := 1) rfl
  have x2 := rS.cell (i := 2) rfl
  have x3 := rS.cell (i := 3) rfl
  rw [hW1, hW0] at x0 x1 x2 x3
  rw [hW1, hW0] at q1
  have HW : Hid (W1 = (w.setCell ⟨w0.heap.size, 0, none⟩ (.int .i64 ((n : Int) + 1))).alloc (.cells #[.int .i64 8, .string s, .string t, .string hh, .int .i64 a0, .int .i64 a1, .int .i64 a2, .int .i64 a3, .slice po bn pc, .slice ho hn hc, .slice ao an ac, .slice mo mn mc, .slice so sn sc, .int .i64 a, .int .i64 b] 83)) := by show _ = _; rw [hW1, hW0]
  clear rS hW0 hW1 b1 kp kpl kpo kg kgl kgo kra krm krs kla klm kls htab
  go_enter Tryz.func28, Tryz.ntmps28
  go_wp2_with fail
  refine q1 _ ?_
  intro w2 hb2
  rw [← HW.out] at hb2
  clear q1
  have HF := Lib.hid (HP.out w2 _ _ _ _ _ _ _ (H1.out.keep hb2))
  clear HP H1 hb2
  go_wp2
  first | exact HF.out | (go_ret; exact HF.out)

set_option maxRecDepth 100000 in
set_option maxHeartbeats 1500000 in
theorem step_0 (w0 w : World) (n : Nat) (o : StepD) (val : Nat → Value) (cnt : Nat → Nat) (cel : Nat → List Value) (ps : List PI) (hs : List HI) (os : List OI) (ms : List MI) (h : ASt w0 w n val cnt cel ps hs os ms) (hok : OkStep w0 o) (hn9 : n ≤ 628292358710) (htab : TabW w0) (Post : Ending → World → Prop) (hk : ¬ (1 ≤ o.kind ∧ o.kind ≤ 8))
    (hp : ∀ w' val' cnt' cel' ps' hs' os' ms', ASt w0 w' (n + 1) val' cnt' cel' ps' hs' os' ms' → Post (.returned (.bool true)) w') :
    Calls Tryz.prog 28 #[.pointer (some ⟨w0.heap.size, 0, none⟩), .agg (stepC o).toArray] w Post := by
  obtain ⟨kd, s, t, hh, a0, a1, a2, a3, pv, bl, hv, hl, av, mv, sv, la, lm, ls, a, b⟩ := o
  dsimp only at hk
  obtain ⟨zs, zt, zh, kp, kpl, kpo, kg, kgl, kgo, kra, krm, krs, kla, klm, kls⟩ := hok
  dsimp only at zs zt zh kp kpl kpo kg kgl kgo kra krm krs kla klm kls
  obtain ⟨po, pc, rfl, _, _⟩ := id kp
  obtain ⟨ho, hc, rfl, _, _⟩ := id kg
  obtain ⟨ao, ac, rfl, _, _⟩ := id kra
  obtain ⟨mo, mc, rfl, _, _⟩ := id krm
  obtain ⟨so, sc, rfl, _, _⟩ := id krs
  obtain ⟨bn, hbn⟩ : ∃ x, x = bl.length := ⟨_, rfl⟩
  obtain ⟨hn, hhn⟩ : ∃ x, x = hl.length := ⟨_, rfl⟩
  obtain ⟨an, han⟩ : ∃ x, x = la.length := ⟨_, rfl⟩
  obtain ⟨mn, hmn⟩ : ∃ x, x = lm.length := ⟨_, rfl⟩
  obtain ⟨sn, hsn⟩ : ∃ x, x = ls.length := ⟨_, rfl⟩
  show Calls Tryz.prog 28 #[.pointer (some ⟨w0.heap.size, 0, none⟩), .agg #[.int .i64 kd, .string s, .string t, .string hh, .int .i64 a0, .int .i64 a1, .int .i64 a2, .int .i64 a3, .slice po bl.length pc, .slice ho hl.length hc, .slice ao la.length ac, .slice mo lm.length mc, .slice so ls.length sc, .int .i64 a, .int .i64 b]] w Post
  rw [← hbn] at kp ⊢
  rw [← hhn] at kg ⊢
  rw [← han] at kra ⊢
  rw [← hmn] at krm ⊢
  rw [← hsn] at krs ⊢
  have hB : w0.heap.size < w.heap.size := h.mem.row.lt
  obtain ⟨W0, hW0⟩ : ∃ x, x = w.setCell ⟨w0.heap.size, 0, none⟩ (.int .i64 ((n : Int) + 1)) := ⟨_, rfl⟩
  have d0 : ∀ o, (w.alloc o).cell? ⟨w0.heap.size, 0, none⟩ = some (.int .i64 (n : Int)) := fun o => (h.mem.row.alloc o).cell (i := 0) rfl
  have g0 : ∀ o, (w.alloc o).frozen? ⟨w0.heap.size, 0, none⟩ = false := fun o => (h.mem.row.alloc o).frozen 0
  have d0' : w.cell? ⟨w0.heap.size, 0, none⟩ = some (.int .i64 (n : Int)) := h.mem.row.cell (i := 0) rfl
  have g0' : w.frozen? ⟨w0.heap.size, 0, none⟩ = false := h.mem.row.frozen 0
  have hA := h.count
  rw [← hW0] at hA
  obtain ⟨W1, hW1⟩ : ∃ x, x = W0.alloc (.cells #[.int .i64 kd, .string s, .string t, .string hh, .int .i64 a0, .int .i64 a1, .int .i64 a2, .int .i64 a3, .slice po bn pc, .slice ho hn hc, .slice ao an ac, .slice mo mn mc, .slice so sn sc, .int .i64 a, .int .i64 b] 83) := ⟨_, rfl⟩
  have bA : Below W0.heap.size W0 W1 := by rw [hW1]; exact (Below.refl _ _).alloc (Nat.le_refl _) _
  have h1 := hA.keep bA
  have hz0 : W0.heap.size = w.heap.size := by rw [hW0]; simp
  have rS : Row W1 w.heap.size 83 [.int .i64 kd, .string s, .string t, .string hh, .int .i64 a0, .int .i64 a1, .int .i64 a2, .int .i64 a3, .slice po bn pc, .slice ho hn hc, .slice ao an ac, .slice mo mn mc, .slice so sn sc, .int .i64 a, .int .i64 b] := by rw [← hz0, hW1]; exact heap_alloc_new W0 _
  have b1 : Below w0.heap.size w0 W1 := h1.below
  have hlp := h.lp
  have hlh := h.lh
  have hlo := h.lo
  have hlm := h.lm
  have hwn : IntKind.i64.wrap ((n : Int) + 1) = (n : Int) + 1 := by rw [IntKind.wrap_i64]; omega
  have HP := Lib.hid hp
  have H1 := Lib.hid h1
  clear hp h hA bA h1 hbn hhn han hmn hsn hz0
  have x0 := rS.cell (i := 0) rfl
  rw [hW1, hW0] at x0
  have m1 : ¬ (kd = 1) := by omega
  have m2 : ¬ (kd = 2) := by omega
  have m3 : ¬ (kd = 3) := by omega
  have m4 : ¬ (kd = 4) := by omega
  have m5 : ¬ (kd = 5) := by omega
  have m6 : ¬ (kd = 6) := by omega
  have m7 : ¬ (kd = 7) := by omega
  have m8 : ¬ (kd = 8) := by omega
  have HF := Lib.hid (HP.out _ _ _ _ _ _ _ _ H1.out)
  rw [hW1, hW0] at HF
  clear rS hW0 hW1 b1 kp kpl kpo kg kgl kgo kra krm krs kla klm kls htab HP H1
  go_enter Tryz.func28, Tryz.ntmps28
  go_wp2
  first | exact HF.out | (go_ret; exact HF.out)

end Go.Proofs.YtblhmeidbjigaabGreatDoor
