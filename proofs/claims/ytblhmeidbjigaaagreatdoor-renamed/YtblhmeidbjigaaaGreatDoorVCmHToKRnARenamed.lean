/- Package compare: compareBlocks. -/
import Derived.Test.YtblhmeidbjigaaaGreatDoorRows
import Derived.WalkKit
import Derived.WalkSpells
import Derived.WalkLawsBesides
import Derived.Laws.BytesArg
import Derived.Deep.QuietTactic
import Derived.BigQuiet
import Derived.Deep.RegionHeld3
import Derived.Lib.ItoaNum
import Derived.Lib.ItoaLen
import Derived.OpenShut
import Derived.Maps.AppendAt
import Derived.Shelf.Strconv.Itoa3
import Derived.Shelf.Lay
import Derived.Ground.NamesProg
import Derived.Lib.SmallJoins
import Derived.Lib.Hide
import Derived.StillTailTactics
import Derived.ProofKit
import Derived.SizedLaws
import Derived.Deep.Slices
import Derived.Deep.RegionLaw
import Derived.Deep.AppendLies
import Derived.Test.YtblhmeidbjigaaaGreatDoorVCmGJoinedRenamed

set_option linter.unusedSimpArgs false
set_option linter.unusedVariables false
namespace Go.Proofs.YtblhmeidbjigaaaGreatDoor
open Go.RowKit

set_option maxRecDepth 100000 in
set_option maxHeartbeats 4000000 in
theorem vBlocks_cps (p q : ProgD) (po qo ho : Option Addr) (pc qc hc : Nat) (h : List PingD) (hgp : progGood p = true) (hgq : progGood q = true) (hps : p.slots = 0) (hs : suitsD p q h) (hgh : goodHint h = true) (w : World)
    (hrp : RdBlocks w (.slice po p.blocks.length pc) p.blocks) (hrq : RdBlocks w (.slice qo q.blocks.length qc) q.blocks) (hrh : RdHint w (.slice ho h.length hc) h) (ht : TabW w) (Post : Ending → World → Prop)
    (hno : ∀ b w', b < q.blocks.length → codeD p q h b ≠ 0 → (∀ c, c < b → codeD p q h c = 0) → Below w.heap.size w w' → Post (.returned (.tuple #[.int .i64 (codeD p q h b), .int .i64 b])) w')
    (hyes : ∀ w', (∀ c, c < q.blocks.length → codeD p q h c = 0) → Below w.heap.size w w' → Post (.returned (.tuple #[.int .i64 0, .int .i64 0])) w') :
    Calls Tryz.prog 87 #[.agg #[.int .i64 p.args, .int .i64 p.regs, .int .i64 p.data, .int .i64 p.slots, .slice po p.blocks.length pc, .int .i64 q.args, .int .i64 q.regs, .int .i64 q.data, .int .i64 q.slots, .slice qo q.blocks.length qc, .slice ho h.length hc]] w Post := by
  have HBLK : Hid (∀ b V P', b < q.blocks.length → Below w.heap.size w V → (∀ w', Below V.heap.size V w' → P' (.returned (.int .i64 (codeD p q h b))) w') → Calls Tryz.prog 130 #[.agg #[.int .i64 p.args, .int .i64 p.regs, .int .i64 p.data, .int .i64 p.slots, .slice po p.blocks.length pc, .int .i64 q.args, .int .i64 q.regs, .int .i64 q.data, .int .i64 q.slots, .slice qo q.blocks.length qc, .slice ho h.length hc], .int .i64 b] V P') := fun b V P' hb hV hP =>
    vBlock_cps p q po qo ho pc qc hc h b hgp hgq hps hs hgh hb V (hrp.keep hV) (hrq.keep hV) (hrh.keep hV) (ht.keep hV) P' hP
  have HNO := Lib.hid hno
  have HYES := Lib.hid hyes
  obtain ⟨pn, hpn⟩ : ∃ pn, pn = p.blocks.length := ⟨_, rfl⟩
  obtain ⟨qn, hqn⟩ : ∃ qn, qn = q.blocks.length := ⟨_, rfl⟩
  obtain ⟨hn, hhn⟩ : ∃ hn, hn = h.length := ⟨_, rfl⟩
  have hqs : qn ≤ 1000 := by have := progGood_len hgq; omega
  rw [← hpn, ← hqn, ← hhn]
  rw [← hpn, ← hqn, ← hhn] at HBLK
  have HQN := Lib.hid hqn
  have b0 : Below w.heap.size w (w.alloc (.cells #[.int .i64 p.args, .int .i64 p.regs, .int .i64 p.data, .int .i64 p.slots, .slice po pn pc, .int .i64 q.args, .int .i64 q.regs, .int .i64 q.data, .int .i64 q.slots, .slice qo qn qc, .slice ho hn hc] 143)) := (Below.refl _ _).alloc (Nat.le_refl _) _
  have r0 : Row (w.alloc (.cells #[.int .i64 p.args, .int .i64 p.regs, .int .i64 p.data, .int .i64 p.slots, .slice po pn pc, .int .i64 q.args, .int .i64 q.regs, .int .i64 q.data, .int .i64 q.slots, .slice qo qn qc, .slice ho hn hc] 143)) w.heap.size 143 [.int .i64 p.args, .int .i64 p.regs, .int .i64 p.data, .int .i64 p.slots, .slice po pn pc, .int .i64 q.args, .int .i64 q.regs, .int .i64 q.data, .int .i64 q.slots, .slice qo qn qc, .slice ho hn hc] := heap_alloc_new w _
  obtain ⟨W, hW⟩ : ∃ W, W = (w.alloc (.cells #[.int .i64 p.args, .int .i64 p.regs, .int .i64 p.data, .int .i64 p.slots, .slice po pn pc, .int .i64 q.args, .int .i64 q.regs, .int .i64 q.data, .int .i64 q.slots, .slice qo qn qc, .slice ho hn hc] 143)) := ⟨_, rfl⟩
  rw [← hW] at b0 r0
  have HWE := Lib.hid hW
  clear hno hyes hps hs hrp hrq hrh ht hpn hqn hhn hW
  obtain ⟨pr, hpr⟩ : ∃ pr, pr = p.regs := ⟨_, rfl⟩
  clear hpr pr
  go_enter Tryz.func87, Tryz.ntmps87
  go_wp2
  rw [← HWE.out]
  clear HWE
  go_loopw [4] (fun i wr => ∃ (k : Nat), k ≤ qn ∧ i = .int .i64 k ∧ Below W.heap.size W wr ∧ Hid (∀ c, c < k → codeD p q h c = 0))
    (fun i _ => qn - (intOf i).toNat)
  case atStart => exact ⟨0, Nat.zero_le _, rfl, Below.refl _ _, fun j hj => by omega⟩
  case round =>
    obtain ⟨k, hk, rfl, hbel, hall⟩ := hrel
    have hbw : Below w.heap.size w wr := b0.trans (hbel.mono b0.size)
    have r1 := r0.keep hbel
    have oc0 := r1.cell (i := 0) rfl
    have oc1 := r1.cell (i := 1) rfl
    have oc2 := r1.cell (i := 2) rfl
    have oc3 := r1.cell (i := 3) rfl
    have oc4 := r1.cell (i := 4) rfl
    have oc5 := r1.cell (i := 5) rfl
    have oc6 := r1.cell (i := 6) rfl
    have oc7 := r1.cell (i := 7) rfl
    have oc8 := r1.cell (i := 8) rfl
    have oc9 := r1.cell (i := 9) rfl
    have oc10 := r1.cell (i := 10) rfl
    by_cases hlt : k < qn
    · have q1 := fun P' => HBLK.out k wr P' hlt hbw
      have hki : (k : Int) < (qn : Int) := by omega
      have HBEL := Lib.hid hbel
      have HBW := Lib.hid hbw
      clear hbel hbw r1
      go_wp2_with fail
      refine q1 _ ?_
      intro w2 b2
      have b3 := HBEL.out.trans (b2.mono HBEL.out.size)
      have b4 := HBW.out.trans (b2.mono HBW.out.size)
      clear q1 b2 HBEL HBW oc0 oc1 oc2 oc3 oc4 oc5 oc6 oc7 oc8 oc9 oc10
      by_cases hz : codeD p q h k = 0
      · have hzq : (codeD p q h k == 0) = true := by rw [beq_iff_eq]; exact hz
        have hall2 : Hid (∀ c, c < k + 1 → codeD p q h c = 0) := fun j hj => by
          by_cases e : j = k
          · rw [e]; exact hz
          · exact hall.out j (by omega)
        have HZ := Lib.hid hz
        clear hall b4
        generalize codeD p q h k = cd at *
        go_wp2
        go_roundw
        case rel => exact ⟨k + 1, by omega, by go_num, b3, hall2⟩
        case measure => simp [intOf]; omega
      · have hzq : (codeD p q h k == 0) = false := by rw [beq_eq_false_iff_ne]; exact hz
        have HF := Lib.hid (HNO.out k w2 (by rw [← HQN.out]; exact hlt) hz hall.out b4)
        clear hall b3 b4 HNO HYES HBLK
        generalize codeD p q h k = cd at *
        go_wp2
        exact HF.out
    · obtain rfl : k = qn := by omega
      have HF := Lib.hid (HYES.out wr (fun c hc => hall.out c (by rw [HQN.out]; exact hc)) hbw)
      clear hall hbel hbw HNO HYES HBLK r1
      go_wp2
      exact HF.out

end Go.Proofs.YtblhmeidbjigaaaGreatDoor

/- Validate, in package compare and in package twin. -/
set_option linter.unusedSimpArgs false
set_option linter.unusedVariables false
namespace Go.Proofs.YtblhmeidbjigaaaGreatDoor
open Go.RowKit

theorem code_is_wrong {p q : ProgD} {h : List PingD} (hgp : progGood p = true) (hgq : progGood q = true) (hps : p.slots = 0) (hs : suitsD p q h) (hgh : goodHint h = true) {b : Nat} (hb : b < q.blocks.length) : codeD p q h b = wrongD p q h b := by
  obtain ⟨hpr, hpa, hpd, hpsl⟩ := good_shape hgp
  obtain ⟨hqr, hqa, hqd, hqsl⟩ := good_shape hgq
  have hbh : b < h.length := by rw [hs.1]; exact hb
  obtain ⟨hsl, hpl⟩ := hs.2 b hbh
  obtain ⟨hs0, hpos⟩ := goodHint_at hgh hbh
  have hsb : (hsrc h b).toNat < p.blocks.length := by omega
  obtain ⟨hp12, hpops⟩ := good_block hgp hsb
  obtain ⟨hq12, hqops⟩ := good_block hgq hb
  rw [hps] at hpops
  have F1 : ∀ k, k ≤ (srcOps p h b).length → ∀ i : Int, 0 ≤ i → i ≤ p.regs + 0 → (behindT p.regs 0 (plainNames p.regs 0) (srcOps p h b) k i).fine := fun k hk i h0 h1 => behindT_fine (by omega) (by omega) (plain_small (by omega)) hpops k hk i h0 h1
  have F2 : ∀ k, k ≤ (bops q.blocks b).length → ∀ i : Int, 0 ≤ i → i ≤ q.regs + q.slots → (behindT q.regs q.slots (namesOf (hpairs h b) (q.regs + q.slots).toNat) (bops q.blocks b) k i).fine := fun k hk i h0 h1 => behindT_fine (by omega) (by omega) (names_small (fun x hx => by have := (hpl x hx).1; omega) _) hqops k hk i h0 h1
  obtain ⟨m1, f1⟩ := marks_show (data := p.data) F1 hpops (by omega) (by omega) _ (Nat.le_refl _)
  obtain ⟨m2, f2⟩ := marks_show (data := q.data) F2 hqops (by omega) (by omega) _ (Nat.le_refl _)
  obtain ⟨⟨k1, r1, r1'⟩, _⟩ := good_end hgp hsb
  obtain ⟨⟨k2, r2, r2'⟩, _⟩ := good_end hgq hb
  refine code_wrong p q h b ⟨fun e => map_show_inj f1 f2 (by rw [← m1, ← m2]; exact e), fun e => by rw [m1, m2, e]⟩ k1 k2 (F1 _ (Nat.le_refl _) _ r1 (by have : (bfin p.blocks (hsrc h b).toNat).r < p.regs := r1'; omega)) (F2 _ (Nat.le_refl _) _ r2 (by have : (bfin q.blocks b).r < q.regs := r2'; omega))

set_option maxRecDepth 100000 in
set_option maxHeartbeats 4000000 in
theorem vVal_cps (s t g : ByteArray) (w : World) (hs : s.size ≤ maxLen) (ht : t.size ≤ maxLen) (hgz : g.size ≤ maxLen) (htab : TabW w) (Post : Ending → World → Prop)
    (hp : ∀ e n w', ValAns s t g e n → Below w.heap.size w w' → Post (.returned (.tuple #[.int .i64 e, .int .i64 n])) w') :
    Calls Tryz.prog 55 #[.string s, .string t, .string g] w Post := by
  have hc := cDecode_any s w hs
  have HP := Lib.hid hp
  clear hp
  go_enter Tryz.func55, Tryz.ntmps55
  go_wp2_with fail
  refine hc.mono ?_
  clear hc
  rintro e w1 ⟨hor, hb1⟩
  rcases hor with ⟨p, v, bv, rfl, ho, hd, hgp, htp⟩ | ⟨hn, rfl⟩
  case inr =>
    have HF := Lib.hid (HP.out 6 0 (w1.alloc (.cells #[.int .i64 0, .int .i64 0, .int .i64 0, .int .i64 0, .slice none 0 0] 33)) (.inl ⟨rfl, rfl, fun p hg he => absurd he (hn p hg)⟩) (hb1.alloc hb1.size _))
    clear hb1 hn HP
    go_wp2
    exact HF.out
  obtain ⟨po, pc, rfl⟩ := owns_slice ho.row
  have hrp0 := ho.rd
  rw [hd] at hrp0
  obtain ⟨pn, hpn⟩ : ∃ pn, pn = bv.length := ⟨_, rfl⟩
  have hpl : pn = p.blocks.length := by rw [hpn, ← hd, bdat_length]
  rw [← hpn] at hrp0 ⊢
  unfold progV
  have bp : Below w.heap.size w (w1.alloc (.cells #[.int .i64 p.args, .int .i64 p.regs, .int .i64 p.data, .int .i64 p.slots, .slice po pn pc] 33)) := hb1.alloc hb1.size _
  have bp1 : Below w1.heap.size w1 (w1.alloc (.cells #[.int .i64 p.args, .int .i64 p.regs, .int .i64 p.data, .int .i64 p.slots, .slice po pn pc] 33)) := (Below.refl _ _).alloc (Nat.le_refl _) _
  have rp1 : Row (w1.alloc (.cells #[.int .i64 p.args, .int .i64 p.regs, .int .i64 p.data, .int .i64 p.slots, .slice po pn pc] 33)) w1.heap.size 33 [.int .i64 p.args, .int .i64 p.regs, .int .i64 p.data, .int .i64 p.slots, .slice po pn pc] := heap_alloc_new w1 _
  have hrp1 := hrp0.keep bp1
  have HPL := Lib.hid hpl
  have HONE : Hid (∀ p', progGood p' = true → str (progText p') = s → p' = p) := fun p' hg he => prog_one hg hgp (he.trans htp.symm)
  have HTP := Lib.hid htp
  clear ho hd hrp0 hb1 bp1 hpn hpl htp
  by_cases hps : p.slots = 0
  case neg =>
    have HF := Lib.hid (HP.out 6 0 (w1.alloc (.cells #[.int .i64 p.args, .int .i64 p.regs, .int .i64 p.data, .int .i64 p.slots, .slice po pn pc] 33)) (.inl ⟨rfl, rfl, fun p' hg he => by rw [HONE.out p' hg he]; exact hps⟩) bp)
    have hq : (p.slots == 0) = false := by rw [beq_eq_false_iff_ne]; exact hps
    clear bp rp1 hrp1 HP
    go_wp2
    exact HF.out
  have hq0 : (p.slots == 0) = true := by rw [beq_iff_eq]; exact hps
  have HPS := Lib.hid hps
  have hc2 := cDecode_any t (w1.alloc (.cells #[.int .i64 p.args, .int .i64 p.regs, .int .i64 p.data, .int .i64 p.slots, .slice po pn pc] 33)) ht
  have HB := Lib.hid bp
  have HRP := Lib.hid hrp1
  have HRow := Lib.hid rp1
  clear hps bp hrp1 rp1
  go_wp2_with fail
  refine hc2.mono ?_
  clear hc2
  rintro e w2 ⟨hor2, hb2⟩
  have b2 := HB.out.trans (hb2.mono HB.out.size)
  have rp2 := HRow.out.keep hb2
  have hrp2 := HRP.out.keep hb2
  clear HB HRP HRow hq0
  rcases hor2 with ⟨q, v2, bv2, rfl, ho2, hd2, hgq, htq⟩ | ⟨hn2, rfl⟩
  case inr =>
    have HF := Lib.hid (HP.out 7 0 (w2.alloc (.cells #[.int .i64 0, .int .i64 0, .int .i64 0, .int .i64 0, .slice none 0 0] 33)) (.inr ⟨p, hgp, HTP.out, HPS.out, .inl ⟨rfl, rfl, hn2⟩⟩) (b2.alloc b2.size _))
    clear b2 hn2 HP rp2 hrp2 hb2
    go_wp2
    exact HF.out
  obtain ⟨qo, qc, rfl⟩ := owns_slice ho2.row
  have hrq0 := ho2.rd
  rw [hd2] at hrq0
  obtain ⟨qn, hqn⟩ : ∃ qn, qn = bv2.length := ⟨_, rfl⟩
  have hql : qn = q.blocks.length := by rw [hqn, ← hd2, bdat_length]
  rw [← hqn] at hrq0 ⊢
  unfold progV
  have bq1 : Below w2.heap.size w2 (w2.alloc (.cells #[.int .i64 q.args, .int .i64 q.regs, .int .i64 q.data, .int .i64 q.slots, .slice qo qn qc] 33)) := (Below.refl _ _).alloc (Nat.le_refl _) _
  have b3 : Below w.heap.size w (w2.alloc (.cells #[.int .i64 q.args, .int .i64 q.regs, .int .i64 q.data, .int .i64 q.slots, .slice qo qn qc] 33)) := b2.alloc b2.size _
  have rq3 : Row (w2.alloc (.cells #[.int .i64 q.args, .int .i64 q.regs, .int .i64 q.data, .int .i64 q.slots, .slice qo qn qc] 33)) w2.heap.size 33 [.int .i64 q.args, .int .i64 q.regs, .int .i64 q.data, .int .i64 q.slots, .slice qo qn qc] := heap_alloc_new w2 _
  have rp3 := rp2.keep bq1
  have hrp3 := hrp2.keep bq1
  have hrq3 := hrq0.keep bq1
  have HQL := Lib.hid hql
  have HTQ := Lib.hid htq
  have pa := fun o => (rp2.alloc o).cell (i := 0) rfl
  have pd := fun o => (rp2.alloc o).cell (i := 2) rfl
  clear ho2 hd2 hrq0 hb2 hqn hql htq b2 hrp2 bq1
  by_cases hsh : p.args = q.args ∧ p.data = q.data
  case neg =>
    have HF := Lib.hid (HP.out 8 0 (w2.alloc (.cells #[.int .i64 q.args, .int .i64 q.regs, .int .i64 q.data, .int .i64 q.slots, .slice qo qn qc] 33)) (.inr ⟨p, hgp, HTP.out, HPS.out, .inr ⟨q, hgq, HTQ.out, .inl ⟨rfl, rfl, hsh⟩⟩⟩) b3)
    clear b3 rq3 rp3 hrp3 hrq3 HP rp2
    by_cases ha : p.args = q.args
    · have e1 : (p.args == q.args) = true := by rw [beq_iff_eq]; exact ha
      have hdd : ¬ p.data = q.data := fun e => hsh ⟨ha, e⟩
      have e2 : (p.data == q.data) = false := by rw [beq_eq_false_iff_ne]; exact hdd
      have HA := Lib.hid ha
      clear ha hsh
      go_wp2
      exact HF.out
    · have e1 : (p.args == q.args) = false := by rw [beq_eq_false_iff_ne]; exact ha
      clear hsh
      go_wp2
      exact HF.out
  have HSH := Lib.hid hsh
  rw [hsh.1, hsh.2] at rp2 rp3
  clear pa pd
  have pa := fun o => (rp2.alloc o).cell (i := 0) rfl
  have pd := fun o => (rp2.alloc o).cell (i := 2) rfl
  have hc3 := cDecodeHint_any g (w2.alloc (.cells #[.int .i64 q.args, .int .i64 q.regs, .int .i64 q.data, .int .i64 q.slots, .slice qo qn qc] 33)) hgz
  have HB := Lib.hid b3
  have HRP := Lib.hid hrp3
  have HRQ := Lib.hid hrq3
  have HrP := Lib.hid rp3
  have HrQ := Lib.hid rq3
  clear hsh b3 hrp3 hrq3 rp3 rq3 rp2
  go_wp2_with fail
  refine hc3.mono ?_
  clear hc3
  rintro e w3 ⟨hor3, hb3⟩
  have b3 := HB.out.trans (hb3.mono HB.out.size)
  have rp3 := HrP.out.keep hb3
  have rq3 := HrQ.out.keep hb3
  have hrp3 := HRP.out.keep hb3
  have hrq3 := HRQ.out.keep hb3
  clear HB HRP HRQ HrP HrQ pa pd hb3
  have pp0 := fun o => (rp3.alloc o).cell (i := 0) rfl
  have qq0 := fun o => (rq3.alloc o).cell (i := 0) rfl
  have pp1 := fun o => (rp3.alloc o).cell (i := 1) rfl
  have qq1 := fun o => (rq3.alloc o).cell (i := 1) rfl
  have pp2 := fun o => (rp3.alloc o).cell (i := 2) rfl
  have qq2 := fun o => (rq3.alloc o).cell (i := 2) rfl
  have pp3 := fun o => (rp3.alloc o).cell (i := 3) rfl
  have qq3 := fun o => (rq3.alloc o).cell (i := 3) rfl
  have pp4 := fun o => (rp3.alloc o).cell (i := 4) rfl
  have qq4 := fun o => (rq3.alloc o).cell (i := 4) rfl
  rcases hor3 with ⟨v3, hv, rfl, ho3, hgh, hth⟩ | ⟨hn3, rfl⟩
  case inr =>
    have bC : Below w.heap.size w ((w3.alloc (.cells #[.slice none 0 0] 70)).alloc (.cells #[.int .i64 q.args, .int .i64 p.regs, .int .i64 q.data, .int .i64 p.slots, .slice po pn pc, .int .i64 q.args, .int .i64 q.regs, .int .i64 q.data, .int .i64 q.slots, .slice qo qn qc, .slice none 0 0] 143)) := (b3.alloc b3.size _).alloc (by have := b3.size; simp; omega) _
    have HF := Lib.hid (HP.out 2 0 _ (.inr ⟨p, hgp, HTP.out, HPS.out, .inr ⟨q, hgq, HTQ.out, .inr ⟨HSH.out, .inl ⟨rfl, rfl, fun h hg he => absurd he (hn3 h hg)⟩⟩⟩⟩) bC)
    clear b3 hn3 HP rp3 rq3 hrp3 hrq3 bC
    go_wp2
    exact HF.out
  obtain ⟨ho, hc, rfl⟩ := owns_slice ho3.row
  have hrh0 := ho3.rd
  obtain ⟨hn, hhn⟩ : ∃ hn, hn = hv.length := ⟨_, rfl⟩
  rw [← hhn] at hrh0 ⊢
  obtain ⟨h, hh⟩ : ∃ h, h = hdat hv := ⟨_, rfl⟩
  have hhl : hn = h.length := by rw [hhn, hh]; simp [hdat]
  rw [← hh] at hrh0 hgh hth
  have HHL := Lib.hid hhl
  have HTH := Lib.hid hth
  have HONEH : Hid (∀ h', goodHint h' = true → str (hintText h') = g → h' = h) := fun h' hg he => hint_one hg hgh (he.trans hth.symm)
  have bC0 : Below w3.heap.size w3 ((w3.alloc (.cells #[.slice ho hn hc] 70)).alloc (.cells #[.int .i64 q.args, .int .i64 p.regs, .int .i64 q.data, .int .i64 p.slots, .slice po pn pc, .int .i64 q.args, .int .i64 q.regs, .int .i64 q.data, .int .i64 q.slots, .slice qo qn qc, .slice ho hn hc] 143)) := ((Below.refl _ _).alloc (Nat.le_refl _) _).alloc (by simp) _
  have bC : Below w.heap.size w ((w3.alloc (.cells #[.slice ho hn hc] 70)).alloc (.cells #[.int .i64 q.args, .int .i64 p.regs, .int .i64 q.data, .int .i64 p.slots, .slice po pn pc, .int .i64 q.args, .int .i64 q.regs, .int .i64 q.data, .int .i64 q.slots, .slice qo qn qc, .slice ho hn hc] 143)) := b3.trans (bC0.mono b3.size)
  have rc : Row ((w3.alloc (.cells #[.slice ho hn hc] 70)).alloc (.cells #[.int .i64 q.args, .int .i64 p.regs, .int .i64 q.data, .int .i64 p.slots, .slice po pn pc, .int .i64 q.args, .int .i64 q.regs, .int .i64 q.data, .int .i64 q.slots, .slice qo qn qc, .slice ho hn hc] 143)) (w3.heap.size + 1) 143 [.int .i64 q.args, .int .i64 p.regs, .int .i64 q.data, .int .i64 p.slots, .slice po pn pc, .int .i64 q.args, .int .i64 q.regs, .int .i64 q.data, .int .i64 q.slots, .slice qo qn qc, .slice ho hn hc] := heap_alloc2_new w3 _ _
  have hrp4 := hrp3.keep bC0
  have hrq4 := hrq3.keep bC0
  have hrh4 := hrh0.keep bC0
  obtain ⟨hqr, hqa, hqd, hqsl⟩ := good_shape hgq
  have hadd : IntKind.i64.wrap (q.regs + q.slots) = q.regs + q.slots := by rw [IntKind.wrap_i64]; omega
  have qF := fun P' => vFit_cps q.args p.regs q.data p.slots q.args q.regs q.data q.slots po qo ho pn pc qn qc hn hc h ((w3.alloc (.cells #[.slice ho hn hc] 70)).alloc (.cells #[.int .i64 q.args, .int .i64 p.regs, .int .i64 q.data, .int .i64 p.slots, .slice po pn pc, .int .i64 q.args, .int .i64 q.regs, .int .i64 q.data, .int .i64 q.slots, .slice qo qn qc, .slice ho hn hc] 143)) hrh4 hadd P'
  have HB := Lib.hid bC
  have HRC := Lib.hid rc
  have HRP := Lib.hid hrp4
  have HRQ := Lib.hid hrq4
  have HRH := Lib.hid hrh4
  clear ho3 hhn hh hhl hth hrh0 b3 bC0 bC rc hrp3 hrq3 hrp4 hrq4 hrh4 rp3 rq3
  go_wp2_with fail
  refine qF _ ?_
  intro z w4 hz b4
  have HZ := Lib.hid hz
  have b5 := HB.out.trans (b4.mono HB.out.size)
  have rc4 := HRC.out.keep b4
  have hrp5 := HRP.out.keep b4
  have hrq5 := HRQ.out.keep b4
  have hrh5 := HRH.out.keep b4
  clear qF hz HB HRC HRP HRQ HRH b4 pp0 pp1 pp2 pp3 pp4 qq0 qq1 qq2 qq3 qq4
  cases z with
  | false =>
    have HF := Lib.hid (HP.out 2 0 w4 (.inr ⟨p, hgp, HTP.out, HPS.out, .inr ⟨q, hgq, HTQ.out, .inr ⟨HSH.out, .inl ⟨rfl, rfl, fun h' hg he hsu => by
      rw [HONEH.out h' hg he] at hsu
      have := HZ.out.2 ⟨by rw [HQL.out]; exact hsu.1, fun b hb => by rw [HPL.out]; exact hsu.2 b hb⟩
      cases this⟩⟩⟩⟩) b5)
    clear b5 rc4 hrp5 hrq5 hrh5 HP
    go_wp2
    exact HF.out
  | true =>
  have HSU : Hid (suitsD p q h) := by
    have h1 := HZ.out.1 rfl
    rw [HQL.out, HPL.out] at h1
    exact h1
  have hh0 : 0 < h.length := by
    simp only [goodHint, Bool.and_eq_true, decide_eq_true_eq] at hgh
    omega
  have qS := fun P' => vStart_cps q.args p.regs q.data p.slots q.args q.regs q.data q.slots po qo ho pn pc qn qc hn hc h hh0 w4 hrh5 P'
  have oc0 := rc4.cell (i := 0) rfl
  have oc1 := rc4.cell (i := 1) rfl
  have oc2 := rc4.cell (i := 2) rfl
  have oc3 := rc4.cell (i := 3) rfl
  have oc4 := rc4.cell (i := 4) rfl
  have oc5 := rc4.cell (i := 5) rfl
  have oc6 := rc4.cell (i := 6) rfl
  have oc7 := rc4.cell (i := 7) rfl
  have oc8 := rc4.cell (i := 8) rfl
  have oc9 := rc4.cell (i := 9) rfl
  have oc10 := rc4.cell (i := 10) rfl
  have HB := Lib.hid b5
  have HRC := Lib.hid rc4
  have HRP := Lib.hid hrp5
  have HRQ := Lib.hid hrq5
  have HRH := Lib.hid hrh5
  clear b5 rc4 hrp5 hrq5 hrh5 HZ
  go_wp2_with fail
  refine qS _ ?_
  intro z w5 hz b6
  have HZ := Lib.hid hz
  have b7 := HB.out.trans (b6.mono HB.out.size)
  have rc5 := HRC.out.keep b6
  have hrp6 := HRP.out.keep b6
  have hrq6 := HRQ.out.keep b6
  have hrh6 := HRH.out.keep b6
  clear qS hz HB HRC HRP HRQ HRH b6 oc0 oc1 oc2 oc3 oc4 oc5 oc6 oc7 oc8 oc9 oc10
  have HJ : Hid (∀ e n w', JudgedD p q h e n → Below w.heap.size w w' → Post (.returned (.tuple #[.int .i64 e, .int .i64 n])) w') := fun e n w' hj hb' =>
    HP.out e n w' (.inr ⟨p, hgp, HTP.out, HPS.out, .inr ⟨q, hgq, HTQ.out, .inr ⟨HSH.out, .inr ⟨h, hgh, HTH.out, HSU.out, hj⟩⟩⟩⟩) hb'
  have HST : Hid (startsD q h ↔ hsrc h 0 = 0 ∧ ∀ x ∈ hpairs h 0, x.place < q.regs ∧ (x.reg = x.place ∨ (q.args ≤ x.reg ∧ q.args ≤ x.place))) := Iff.rfl
  cases z with
  | false =>
    have HF := Lib.hid (HJ.out 9 0 w5 (.inl ⟨rfl, rfl, fun hq => by have := HZ.out.2 (HST.out.1 hq); cases this⟩) b7)
    clear b7 rc5 hrp6 hrq6 hrh6 HP HJ
    go_wp2
    exact HF.out
  | true =>
  have HSTT : Hid (startsD q h) := HST.out.2 (HZ.out.1 rfl)
  have qB := fun P' => vBlocks_cps p q po qo ho pc qc hc h hgp hgq HPS.out HSU.out hgh w5 (by rw [← HPL.out]; exact hrp6) (by rw [← HQL.out]; exact hrq6) (by rw [← HHL.out]; exact hrh6) (htab.keep b7) P'
  rw [← HPL.out, ← HQL.out, ← HHL.out, HSH.out.1, HSH.out.2] at qB
  have oc0 := rc5.cell (i := 0) rfl
  have oc1 := rc5.cell (i := 1) rfl
  have oc2 := rc5.cell (i := 2) rfl
  have oc3 := rc5.cell (i := 3) rfl
  have oc4 := rc5.cell (i := 4) rfl
  have oc5 := rc5.cell (i := 5) rfl
  have oc6 := rc5.cell (i := 6) rfl
  have oc7 := rc5.cell (i := 7) rfl
  have oc8 := rc5.cell (i := 8) rfl
  have oc9 := rc5.cell (i := 9) rfl
  have oc10 := rc5.cell (i := 10) rfl
  have HB := Lib.hid b7
  clear b7 rc5 hrp6 hrq6 hrh6 HZ
  go_wp2_with fail
  refine qB _ ?_ ?_
  · intro b w6 hb hne hall b8
    have hW := fun c (hc : c < q.blocks.length) => code_is_wrong hgp hgq HPS.out HSU.out hgh hc
    rw [← HQL.out] at hW
    have HF := Lib.hid (HJ.out (codeD p q h b) b w6 (.inr ⟨HSTT.out, .inl ⟨b, by rw [← HQL.out]; exact hb, rfl, hW b hb, hne, fun c hc => by rw [← hW c (by omega)]; exact hall c hc⟩⟩) (HB.out.trans (b8.mono HB.out.size)))
    clear qB hW hne hall b8 HJ HP HB
    generalize codeD p q h b = cd at *
    go_wp2
    exact HF.out
  · intro w6 hall b8
    have hW := fun c (hc : c < q.blocks.length) => code_is_wrong hgp hgq HPS.out HSU.out hgh hc
    rw [← HQL.out] at hW
    have HF := Lib.hid (HJ.out 0 0 w6 (.inr ⟨HSTT.out, .inr ⟨rfl, rfl, fun c hc => by rw [← HQL.out] at hc; rw [← hW c hc]; exact hall c hc⟩⟩) (HB.out.trans (b8.mono HB.out.size)))
    clear qB hW hall b8 HJ HP HB
    go_wp2
    exact HF.out

set_option maxRecDepth 100000 in
set_option maxHeartbeats 1000000 in
theorem tVal_cps (s t g : ByteArray) (w : World) (hs : s.size ≤ maxLen) (ht : t.size ≤ maxLen) (hgz : g.size ≤ maxLen) (htab : TabW w) (Post : Ending → World → Prop)
    (hp : ∀ e n w', ValAns s t g e n → Below w.heap.size w w' → Post (.returned (.tuple #[.int .i64 e, .int .i64 n])) w') :
    Calls Tryz.prog 25 #[.string s, .string t, .string g] w Post := by
  have q := fun P' => vVal_cps s t g w hs ht hgz htab P'
  go_enter Tryz.func25, Tryz.ntmps25
  go_wp2_with fail
  refine q _ ?_
  intro e n w1 ha hb
  have HF := Lib.hid (hp e n w1 ha hb)
  clear q ha hb hp
  go_wp2
  exact HF.out

end Go.Proofs.YtblhmeidbjigaaaGreatDoor

/- Are the two, with the hint, well made, and twins (twinkeep.accepted)? -/
set_option linter.unusedSimpArgs false
set_option linter.unusedVariables false
namespace Go.Proofs.YtblhmeidbjigaaaGreatDoor
open Go.RowKit

set_option maxRecDepth 100000 in
set_option maxHeartbeats 4000000 in
theorem accepted_cps (p q : ProgD) (h : List PingD) (pv qv hv : Value) (w : World) (hp : RdBlocks w pv p.blocks) (hq : RdBlocks w qv q.blocks) (hh : RdHint w hv h)
    (gp : progGood p = true) (gq : progGood q = true) (gh : goodHint h = true) (htab : TabW w) (hv0 : ValAns (str (progText p)) (str (progText q)) (str (hintText h)) 0 0) (Post : Ending → World → Prop)
    (hpost : ∀ w', Below w.heap.size w w' → Post (.returned (.bool true)) w') :
    Calls Tryz.prog 29 #[.agg #[.int .i64 p.args, .int .i64 p.regs, .int .i64 p.data, .int .i64 p.slots, pv], .agg #[.int .i64 q.args, .int .i64 q.regs, .int .i64 q.data, .int .i64 q.slots, qv], .agg #[hv]] w Post := by
  obtain ⟨po, pc, e0, _, _⟩ := id hp
  subst e0
  obtain ⟨qo, qc, e0, _, _⟩ := id hq
  subst e0
  obtain ⟨ho, hc, e0, _, _⟩ := id hh
  subst e0
  have sp := progText_small gp
  have sq := progText_small gq
  have sh := hintText_small gh
  obtain ⟨wA, hwA⟩ : ∃ x, x = ((w.alloc (.cells #[.int .i64 p.args, .int .i64 p.regs, .int .i64 p.data, .int .i64 p.slots, .slice po p.blocks.length pc] 33)).alloc (.cells #[.int .i64 q.args, .int .i64 q.regs, .int .i64 q.data, .int .i64 q.slots, .slice qo q.blocks.length qc] 33)).alloc (.cells #[.slice ho h.length hc] 70) := ⟨_, rfl⟩
  have b0 : Below w.heap.size w wA := by subst hwA; exact (((Below.refl w.heap.size w).alloc (Nat.le_refl _) _).alloc (by simp) _).alloc (by simp; omega) _
  have rQ : Row wA (w.heap.size + 1) 33 [.int .i64 q.args, .int .i64 q.regs, .int .i64 q.data, .int .i64 q.slots, .slice qo q.blocks.length qc] := by subst hwA; exact Row.alloc (heap_alloc2_new w _ _) _
  have rH : Row wA (w.heap.size + 2) 70 [.slice ho h.length hc] := by
    subst hwA
    have q := heap_alloc2_new (w.alloc (.cells #[.int .i64 p.args, .int .i64 p.regs, .int .i64 p.data, .int .i64 p.slots, .slice po p.blocks.length pc] 33)) (.cells #[.int .i64 q.args, .int .i64 q.regs, .int .i64 q.data, .int .i64 q.slots, .slice qo q.blocks.length qc] 33) (.cells #[.slice ho h.length hc] 70)
    simp only [World.size_alloc] at q
    exact q
  have c1 := kText_any p.args p.regs p.data p.slots _ p.blocks wA (hp.keep b0) gp
  have c2 := fun w2 (b : Below w.heap.size w w2) => kText_any q.args q.regs q.data q.slots _ q.blocks w2 (hq.keep b) gq
  have c3 := fun w2 (b : Below w.heap.size w w2) => kHintText_any _ h w2 (hh.keep b) gh
  have c4 := fun w2 (b : Below w.heap.size w w2) P' => tVal_cps _ _ _ w2 sp sq sh (htab.keep b) P'
  have HV := Lib.hid hv0
  have HP := Lib.hid hpost
  have HB := Lib.hid b0
  have HRQ := Lib.hid rQ
  have HRH := Lib.hid rH
  clear hp hq hh gp gq gh htab hv0 hpost b0 rQ rH sp sq sh
  generalize str (progText p) = S at *
  generalize str (progText q) = T at *
  generalize str (hintText h) = G at *
  subst hwA
  obtain ⟨a0, a1, a2, a3, pb⟩ := p
  obtain ⟨d0, d1, d2, d3, qb⟩ := q
  dsimp only at *
  go_enter Tryz.func29, Tryz.ntmps29
  go_wp2_with fail
  refine c1.mono ?_
  rintro e w1 ⟨rfl, hb⟩
  have b1 := HB.out.trans (hb.mono (by simp; omega))
  have rQ1 := HRQ.out.keep hb
  have HRH1 := Lib.hid (HRH.out.keep hb)
  have x0 := rQ1.cell (i := 0) rfl
  have x1 := rQ1.cell (i := 1) rfl
  have x2 := rQ1.cell (i := 2) rfl
  have x3 := rQ1.cell (i := 3) rfl
  have x4 := rQ1.cell (i := 4) rfl
  have c2' := c2 w1 b1
  have HB1 := Lib.hid b1
  clear c1 c2 hb HB HRQ HRH b1 rQ1
  go_wp2_with fail
  refine c2'.mono ?_
  rintro e w2 ⟨rfl, hb⟩
  have b2 := HB1.out.trans (hb.mono HB1.out.size)
  have rH2 := HRH1.out.keep hb
  have x0 := rH2.cell (i := 0) rfl
  have c3' := c3 w2 b2
  have HB2 := Lib.hid b2
  clear c2' c3 hb HB1 HRH1 b2 rH2 x1 x2 x3 x4
  go_wp2_with fail
  refine c3'.mono ?_
  rintro e w3 ⟨rfl, hb⟩
  have b3 := HB2.out.trans (hb.mono HB2.out.size)
  have c4' := c4 w3 b3
  have HB3 := Lib.hid b3
  clear c3' c4 hb HB2 b3 x0
  go_wp2_with fail
  refine c4' _ ?_
  intro e n w4 hva hb
  obtain ⟨rfl, rfl⟩ := hva.one HV.out
  have HF := Lib.hid (HP.out w4 (HB3.out.trans (hb.mono HB3.out.size)))
  clear c4' hva hb HB3 HP HV
  go_wp2
  exact HF.out

end Go.Proofs.YtblhmeidbjigaaaGreatDoor

/- A hint that came in, read. -/
set_option linter.unusedSimpArgs false
set_option linter.unusedVariables false
namespace Go.Proofs.YtblhmeidbjigaaaGreatDoor
open Go.RowKit Go.ChangeShapes Go.WideShapes Go.ChangeAt Go.Deep

theorem Tryz.cellsInt : Tryz.prog.cellsOf 3 = 1 := by kernel_rfl
section
variable {H : Type} {enc : TypeId × Value → H} {w : World} {spare : Nat → Bool} {held : Bool}

theorem cells_get {base n : Nat} {a : Addr} {cs : List Value} (h : w.cells? base a n = some cs) : cs.length = n ∧ ∀ i (hi : i < cs.length), w.cell? (a.add i) = some cs[i] := by
  obtain ⟨_, hl, hc⟩ := World.cells?_some h
  refine ⟨hl, fun i hi => ?_⟩
  have := hc i (by omega)
  rw [List.getElem?_eq_getElem hi] at this
  exact this

/-- The address of a slice's first cell, where there is one. -/
theorem addr_lit {a : Addr} {v : Value} (h : w.cell? (a.add 0) = some v) : a = ⟨a.block, a.off, none⟩ := by
  have e : a.add 0 = a := by simp [Addr.add]
  rw [e] at h
  have hs := World.cell?_spot h
  cases a
  simp at hs
  rw [hs]

end

end Go.Proofs.YtblhmeidbjigaaaGreatDoor

/- A list of words that came in, read. -/
set_option linter.unusedSimpArgs false
set_option linter.unusedVariables false
namespace Go.Proofs.YtblhmeidbjigaaaGreatDoor
open Go.RowKit Go.ChangeShapes Go.WideShapes Go.ChangeAt Go.Deep

theorem Tryz.bytesInt : Tryz.prog.bytesOf 3 = 8 := by kernel_rfl

/-- Words: within 64 bits. -/
def Wide (l : List Int) : Prop := ∀ x ∈ l, -9223372036854775808 ≤ x ∧ x ≤ 9223372036854775807

section
variable {H : Type} {enc : TypeId × Value → H} {w : World} {spare : Nat → Bool} {held : Bool}

theorem open_words {fuel : Nat} {v : Value} {x : DataW H × List MemPlace} (h : DataW.trod enc Tryz.prog w 0 spare held fuel 30 [v] = some x) (hs : ∀ n ∈ x.1.weights Tryz.prog 30, n ≤ reachBytes) :
    ∃ l, RdWords w v l ∧ l.length ≤ 17592186044416 ∧ Wide l := by
  rcases open_slice Tryz.underlying30 h with ⟨e, _⟩ | ⟨a, len, cap, m, n, D, Pl, e, _, hlc, hcm, hm, hx, hel⟩
  · simp at e
    subst e
    exact ⟨[], rdWords_nil w, by simp, fun x hx => by cases hx⟩
  · simp at e
    subst e
    have hlm : len ≤ m := by rw [hm]; split <;> omega
    have key : ∀ i, i < len → ∃ p : Int, w.cell? (a.add i) = some (.int .i64 p) ∧ -9223372036854775808 ≤ p ∧ p ≤ 9223372036854775807 := by
      intro i hi
      obtain ⟨cs', hc, ht⟩ := hel i (by omega)
      rw [Tryz.cellsInt] at hc
      obtain ⟨x0, rfl, _, hwf⟩ := DataW.trod_int Tryz.underlying3 ht
      have := (cells_get hc).2
      refine ⟨x0, ?_, ?_⟩
      · have := this 0 (by simp); simpa [add_add] using this
      · simp only [Lit.wf, Bool.and_eq_true, decide_eq_true_eq] at hwf
        exact ⟨Int.le_trans (by decide) hwf.1, Int.le_trans hwf.2 (by decide)⟩
    obtain ⟨f, hf⟩ := @choose_lt Int ⟨0⟩ len _ key
    have hw : len * 8 ≤ reachBytes := by
      have := hs ((len + (m - len)) * 8) (by rw [hx]; simp [DataW.weights, Tryz.underlying30, Tryz.bytesInt])
      omega
    have hlen : len ≤ 17592186044416 := by unfold reachBytes at hw; omega
    refine ⟨(List.range len).map f, ⟨some a, cap, by simp, by simp; omega, fun i hi => ?_⟩, by simpa using hlen, ?_⟩
    · have hi' : i < len := by simpa using hi
      obtain ⟨c1, _⟩ := hf i hi'
      have ha := addr_lit (by simpa using (hf 0 (by omega)).1)
      rw [ha, Addr.add_lit] at c1
      refine ⟨a.block, a.off, by rw [← ha], ?_⟩
      rw [c1]; simp [List.getD, hi']
    · intro x hx
      obtain ⟨i, hi, rfl⟩ := List.mem_map.1 hx
      exact (hf i (by simpa using hi)).2

set_option maxRecDepth 100000 in
theorem open_words_arg {v : Value} {d : DataW H} {p : List MemPlace} {r : Reach} {b0 : Nat} (hv : Value.okWide Tryz.prog w r b0 30 v) (h : DataW.Trod enc Tryz.prog w 0 spare held 30 v d p) (hs : ∀ n ∈ d.weights Tryz.prog 30, n ≤ reachBytes) :
    ∃ l, RdWords w v l ∧ l.length ≤ 17592186044416 ∧ Wide l := by
  obtain ⟨a, len, cap, rfl⟩ := okWide_slice Tryz.underlying30 hv
  obtain ⟨fuel, hf⟩ := h
  exact open_words (x := (d, p)) (by simpa [Value.cells] using hf) hs

end

end Go.Proofs.YtblhmeidbjigaaaGreatDoor

/- twinkeep.Same: a source is its own twin. -/
set_option linter.unusedSimpArgs false
set_option linter.unusedVariables false
namespace Go.Proofs.YtblhmeidbjigaaaGreatDoor
open Go.RowKit Go.Deep

theorem RdWords.rawI {w : World} {v : Value} {l : List Int} (h : RdWords w v l) (hw : Wide l) : RdInts w v l.length := by
  obtain ⟨ao, cap, rfl, hl, hc⟩ := h
  refine ⟨ao, cap, rfl, hl, fun i hi => ?_⟩
  obtain ⟨b, off, e, h1⟩ := hc i hi
  have hm : l.getD i 0 ∈ l := getD_mem' hi
  exact ⟨b, off, _, e, (hw _ hm).1, (hw _ hm).2, h1⟩

theorem bdat_ops {bv : List (BlockD × Value)} {n : Int} (h : ∀ x ∈ bv, (x.1.ops.length : Int) ≤ n) : ∀ b, b < (bdat bv).length → ((bops (bdat bv) b).length : Int) ≤ n := by
  intro b hb
  have hb' : b < bv.length := by simpa [bdat] using hb
  have := h bv[b] (List.getElem_mem hb')
  simpa [bops, bdat, List.getD, hb'] using this

end Go.Proofs.YtblhmeidbjigaaaGreatDoor

/- Other names for registers: which numbers are free (twinkeep.in, twinkeep.free). -/
set_option linter.unusedSimpArgs false
set_option linter.unusedVariables false
namespace Go.Proofs.YtblhmeidbjigaaaGreatDoor
open Go.RowKit

/-- How many numbers below m stand in the list. -/
def inBelow (l : List Int) : Nat → Nat
  | 0 => 0
  | m + 1 => inBelow l m + if (m : Int) ∈ l then 1 else 0
/-- How many don't. -/
def outBelow (l : List Int) : Nat → Nat
  | 0 => 0
  | m + 1 => outBelow l m + if (m : Int) ∈ l then 0 else 1

theorem in_out (l : List Int) (m : Nat) : inBelow l m + outBelow l m = m := by
  induction m with
  | zero => rfl
  | succ m ih => simp only [inBelow, outBelow]; split <;> omega

theorem inBelow_nil (m : Nat) : inBelow [] m = 0 := by
  induction m with
  | zero => rfl
  | succ m ih => simp [inBelow, ih]

theorem inBelow_cons (x : Int) (l : List Int) (m : Nat) : inBelow (x :: l) m ≤ inBelow l m + if x < m then 1 else 0 := by
  induction m with
  | zero => simp [inBelow]
  | succ m ih =>
    simp only [inBelow, List.mem_cons]
    by_cases h1 : (m : Int) ∈ l
    · rw [if_pos (.inr h1), if_pos h1]
      by_cases h2 : x < (m : Int)
      · rw [if_pos h2] at ih
        rw [if_pos (by omega)]
        omega
      · rw [if_neg h2] at ih
        split <;> omega
    · rw [if_neg h1]
      by_cases h2 : (m : Int) = x
      · rw [if_pos (.inl h2), if_pos (by omega)]
        rw [if_neg (by omega)] at ih
        omega
      · rw [if_neg (by rintro (h | h); exact h2 h; exact h1 h)]
        by_cases h3 : x < (m : Int)
        · rw [if_pos h3] at ih
          rw [if_pos (by omega)]
          omega
        · rw [if_neg h3] at ih
          split <;> omega

theorem inBelow_le (l : List Int) (m : Nat) : inBelow l m ≤ l.length := by
  induction l with
  | nil => rw [inBelow_nil]; exact Nat.le_refl _
  | cons x l ih =>
    have := inBelow_cons x l m
    rw [List.length_cons]
    split at this <;> omega

theorem free_last {l : List Int} {k0 : Nat} (h : outBelow l (l.length + k0) ≤ k0) : ((l.length + k0 : Nat) : Int) ∉ l := by
  intro hm
  have h1 := in_out l (l.length + k0)
  have h2 := inBelow_le l (l.length + k0 + 1)
  simp only [inBelow] at h2
  rw [if_pos hm] at h2
  omega

set_option maxHeartbeats 800000 in
theorem kIn_cps (v : Value) (l : List Int) (n : Int) (w : World) (hr : RdWords w v l) (Post : Ending → World → Prop)
    (hp : ∀ z, (z = true ↔ n ∈ l) → Post (.returned (.bool z)) w) :
    Calls Tryz.prog 99 #[v, .int .i64 n] w Post := by
  obtain ⟨ao, cap, rfl, hll, hc⟩ := hr
  have HP := Lib.hid hp
  clear hp
  go_enter Tryz.func99, Tryz.ntmps99
  go_wp2
  go_loopw [5] (fun i wr => ∃ (k : Nat), k ≤ l.length ∧ i = .int .i64 k ∧ wr = w ∧ Hid (∀ j, j < k → l.getD j 0 ≠ n))
    (fun i _ => l.length - (intOf i).toNat)
  case atStart => exact ⟨0, Nat.zero_le _, rfl, rfl, fun j hj => by omega⟩
  case round =>
    obtain ⟨k, hk, rfl, rfl, hno⟩ := hrel
    by_cases hlt : k < l.length
    · obtain ⟨b, off, rfl, hcell⟩ := hc k hlt
      have hk0 : (0 : Int) ≤ (k : Int) := by omega
      have hkn : (k : Int) < (l.length : Int) := by omega
      obtain ⟨y, hy⟩ : ∃ y, y = l.getD k 0 := ⟨_, rfl⟩
      rw [← hy] at hcell
      have HY := Lib.hid hy
      by_cases he : y = n
      · have e1 : (y == n) = true := by simp [he]
        have hm : n ∈ l := by rw [← he, HY.out]; simp [List.getD, hlt]
        have HF := Lib.hid (HP.out true ⟨fun _ => hm, fun _ => rfl⟩)
        clear HP hno hy he hm
        go_wp2
        exact HF.out
      · have e1 : (y == n) = false := by simp [he]
        have HN : Hid (∀ j, j < k + 1 → l.getD j 0 ≠ n) := fun j hj => by
          by_cases hjk : j < k
          · exact hno.out j hjk
          · obtain rfl : j = k := by omega
            rw [← HY.out]; exact he
        clear hno hy he
        go_wp2
        go_roundw
        case rel => exact ⟨k + 1, by omega, by go_num, (by trivial), HN⟩
        case measure => simp [intOf]; omega
    · have hkl : k = l.length := by omega
      have hnot : n ∉ l := fun h => by
        obtain ⟨j, hj, e⟩ := List.getElem_of_mem h
        exact hno.out j (by omega) (by rw [← e]; simp [List.getD, hj])
      have HF := Lib.hid (HP.out false ⟨fun h => (by cases h), fun h => absurd h hnot⟩)
      clear hnot
      subst hkl
      clear HP hno
      go_wp2
      exact HF.out

set_option maxHeartbeats 800000 in
theorem kFree_cps (v : Value) (l : List Int) (k0 : Nat) (w : World) (hr : RdWords w v l) (hl : l.length ≤ 8) (hk8 : k0 ≤ 8) (Post : Ending → World → Prop)
    (hp : ∀ x : Nat, x ≤ l.length + k0 → (x : Int) ∉ l → Post (.returned (.int .i64 x)) w) :
    Calls Tryz.prog 64 #[v, .int .i64 k0] w Post := by
  obtain ⟨ao, cap, rfl, hll, hc⟩ := id hr
  have HP := Lib.hid hp
  have HR := Lib.hid hr
  have hsum : IntKind.i64.wrap ((l.length : Int) + (k0 : Int)) = ((l.length + k0 : Nat) : Int) := by rw [IntKind.wrap_i64]; omega
  clear hp hc hr
  obtain ⟨most, hmost⟩ : ∃ most, most = l.length + k0 := ⟨_, rfl⟩
  rw [← hmost] at hsum
  have HM := Lib.hid hmost
  have hm16 : most ≤ 16 := by omega
  clear hmost
  go_enter Tryz.func64, Tryz.ntmps64
  go_wp2
  go_loopw [1, 6] (fun kv i wr => ∃ (m kk : Nat), m ≤ most ∧ i = .int .i64 m ∧ kv = .int .i64 kk ∧ kk ≤ 8 ∧ wr = w ∧ Hid (kk + outBelow l m = k0))
    (fun _ i _ => most - (intOf i).toNat)
  case atStart => exact ⟨0, k0, Nat.zero_le _, rfl, rfl, hk8, rfl, rfl⟩
  case round =>
    obtain ⟨m, kk, hm, rfl, rfl, hkk, rfl, hco⟩ := hrel
    by_cases hlt : m < most
    · have q1 := fun P' => kIn_cps (.slice ao l.length cap) l m wr HR.out P'
      go_wp2_with fail
      refine q1 _ ?_
      intro z hz
      have HZ := Lib.hid hz
      clear q1 hz
      cases z with
      | true =>
        have hin := HZ.out.1 rfl
        have HO : Hid (kk + outBelow l (m + 1) = k0) := by show _ = _; simp only [outBelow]; rw [if_pos hin]; exact hco.out
        clear HZ hin hco
        go_wp2
        go_roundw
        case rel => exact ⟨m + 1, kk, by omega, by go_num, rfl, hkk, (by trivial), HO⟩
        case measure => simp [intOf]; omega
      | false =>
        have hnin : (m : Int) ∉ l := fun h => by have := HZ.out.2 h; cases this
        by_cases hk0 : kk = 0
        · have e1 : ((kk : Int) == 0) = true := by simp [hk0]
          have HF := Lib.hid (HP.out m (by have := HM.out; omega) hnin)
          subst hk0
          clear HP HZ hnin hco e1
          go_wp2
          exact HF.out
        · have e1 : ((kk : Int) == 0) = false := by simp; omega
          have e2 : (kk == 0) = false := by simp; omega
          have hsub : IntKind.i64.wrap ((kk : Int) - 1) = ((kk - 1 : Nat) : Int) := by rw [IntKind.wrap_i64]; omega
          have HO : Hid (kk - 1 + outBelow l (m + 1) = k0) := by show _ = _; simp only [outBelow]; rw [if_neg hnin]; have := hco.out; omega
          clear HZ hnin hco
          go_wp2
          go_roundw
          case rel => exact ⟨m + 1, kk - 1, by omega, by go_num, by first | rfl | (simp [hsub]), by omega, (by trivial), HO⟩
          case measure => simp [intOf]; omega
    · have hmm : m = most := by omega
      have HF := Lib.hid (HP.out most (by have := HM.out; omega) (by rw [HM.out]; exact free_last (by have := hco.out; rw [hmm, HM.out] at this; omega)))
      subst hmm
      clear HP hco
      go_wp2
      exact HF.out

end Go.Proofs.YtblhmeidbjigaaaGreatDoor
