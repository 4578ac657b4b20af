/- Package compare: compareBlocks. -/
import Derived.Test.YtblhmeidbjigaabGreatDoorRows
import Derived.WalkKit
import Derived.WalkSpells
import Derived.WalkLawsBesides
import Derived.Laws.BytesArg
import Derived.Deep.QuietTactic
import Derived.BigQuiet
import Derived.Deep.RegionHeld3
import Derived.Lib.ItoaNum
import Derived.Lib.ItoaLen
import Derived.OpenShut
import Derived.Maps.AppendAt
import Derived.Shelf.Strconv.Itoa3
import Derived.Shelf.Lay
import Derived.Ground.NamesProg
import Derived.Lib.SmallJoins
import Derived.Lib.Hide
import Derived.StillTailTactics
import Derived.ProofKit
import Derived.SizedLaws
import Derived.Deep.Slices
import Derived.Deep.RegionLaw
import Derived.Deep.AppendLies
import Derived.BigRegion
import Derived.Test.YtblhmeidbjigaabGreatDoorVCmGJoinedSwapped

set_option linter.unusedSimpArgs false
set_option linter.unusedVariables false
namespace Go.Proofs.YtblhmeidbjigaabGreatDoor
open Go.RowKit

set_option maxRecDepth 100000 in
set_option maxHeartbeats 4000000 in
theorem vBlocks_cps (p q : ProgD) (po qo ho : Option Addr) (pc qc hc : Nat) (h : List PingD) (hgp : progGood p = true) (hgq : progGood q = true) (hps : p.slots = 0) (hs : suitsD p q h) (hgh : goodHint h = true) (w : World)
    (hrp : RdBlocks w (.slice po p.blocks.length pc) p.blocks) (hrq : RdBlocks w (.slice qo q.blocks.length qc) q.blocks) (hrh : RdHint w (.slice ho h.length hc) h) (ht : TabW w) (Post : Ending → World → Prop)
    (hno : ∀ b w', b < q.blocks.length → codeD p q h b ≠ 0 → (∀ c, c < b → codeD p q h c = 0) → Below w.heap.size w w' → Post (.returned (.tuple #[.int .i64 (codeD p q h b), .int .i64 b])) w')
    (hyes : ∀ w', (∀ c, c < q.blocks.length → codeD p q h c = 0) → Below w.heap.size w w' → Post (.returned (.tuple #[.int .i64 0, .int .i64 0])) w') :
    Calls Tryz.prog 62 #[.agg #[.int .i64 p.args, .int .i64 p.regs, .int .i64 p.data, .int .i64 p.slots, .slice po p.blocks.length pc, .int .i64 q.args, .int .i64 q.regs, .int .i64 q.data, .int .i64 q.slots, .slice qo q.blocks.length qc, .slice ho h.length hc]] w Post := by
  have HBLK : Hid (∀ b V P', b < q.blocks.length → Below w.heap.size w V → (∀ w', Below V.heap.size V w' → P' (.returned (.int .i64 (codeD p q h b))) w') → Calls Tryz.prog 102 #[.agg #[.int .i64 p.args, .int .i64 p.regs, .int .i64 p.data, .int .i64 p.slots, .slice po p.blocks.length pc, .int .i64 q.args, .int .i64 q.regs, .int .i64 q.data, .int .i64 q.slots, .slice qo q.blocks.length qc, .slice ho h.length hc], .int .i64 b] V P') := fun b V P' hb hV hP =>
    vBlock_cps p q po qo ho pc qc hc h b hgp hgq hps hs hgh hb V (hrp.keep hV) (hrq.keep hV) (hrh.keep hV) (ht.keep hV) P' hP
  have HNO := Lib.hid hno
  have HYES := Lib.hid hyes
  obtain ⟨pn, hpn⟩ : ∃ pn, pn = p.blocks.length := ⟨_, rfl⟩
  obtain ⟨qn, hqn⟩ : ∃ qn, qn = q.blocks.length := ⟨_, rfl⟩
  obtain ⟨hn, hhn⟩ : ∃ hn, hn = h.length := ⟨_, rfl⟩
  have hqs : qn ≤ 1000 := by have := progGood_len hgq; omega
  rw [← hpn, ← hqn, ← hhn]
  rw [← hpn, ← hqn, ← hhn] at HBLK
  have HQN := Lib.hid hqn
  have b0 : Below w.heap.size w (w.alloc (.cells #[.int .i64 p.args, .int .i64 p.regs, .int .i64 p.data, .int .i64 p.slots, .slice po pn pc, .int .i64 q.args, .int .i64 q.regs, .int .i64 q.data, .int .i64 q.slots, .slice qo qn qc, .slice ho hn hc] 120)) := (Below.refl _ _).alloc (Nat.le_refl _) _
  have r0 : Row (w.alloc (.cells #[.int .i64 p.args, .int .i64 p.regs, .int .i64 p.data, .int .i64 p.slots, .slice po pn pc, .int .i64 q.args, .int .i64 q.regs, .int .i64 q.data, .int .i64 q.slots, .slice qo qn qc, .slice ho hn hc] 120)) w.heap.size 120 [.int .i64 p.args, .int .i64 p.regs, .int .i64 p.data, .int .i64 p.slots, .slice po pn pc, .int .i64 q.args, .int .i64 q.regs, .int .i64 q.data, .int .i64 q.slots, .slice qo qn qc, .slice ho hn hc] := heap_alloc_new w _
  obtain ⟨W, hW⟩ : ∃ W, W = (w.alloc (.cells #[.int .i64 p.args, .int .i64 p.regs, .int .i64 p.data, .int .i64 p.slots, .slice po pn pc, .int .i64 q.args, .int .i64 q.regs, .int .i64 q.data, .int .i64 q.slots, .slice qo qn qc, .slice ho hn hc] 120)) := ⟨_, rfl⟩
  rw [← hW] at b0 r0
  have HWE := Lib.hid hW
  clear hno hyes hps hs hrp hrq hrh ht hpn hqn hhn hW
  obtain ⟨pr, hpr⟩ : ∃ pr, pr = p.regs := ⟨_, rfl⟩
  clear hpr pr
  go_enter Tryz.func62, Tryz.ntmps62
  go_wp2
  rw [← HWE.out]
  clear HWE
  go_loopw [4] (fun i wr => ∃ (k : Nat), k ≤ qn ∧ i = .int .i64 k ∧ Below W.heap.size W wr ∧ Hid (∀ c, c < k → codeD p q h c = 0))
    (fun i _ => qn - (intOf i).toNat)
  case atStart => exact ⟨0, Nat.zero_le _, rfl, Below.refl _ _, fun j hj => by omega⟩
  case round =>
    obtain ⟨k, hk, rfl, hbel, hall⟩ := hrel
    have hbw : Below w.heap.size w wr := b0.trans (hbel.mono b0.size)
    have r1 := r0.keep hbel
    have oc0 := r1.cell (i := 0) rfl
    have oc1 := r1.cell (i := 1) rfl
    have oc2 := r1.cell (i := 2) rfl
    have oc3 := r1.cell (i := 3) rfl
    have oc4 := r1.cell (i := 4) rfl
    have oc5 := r1.cell (i := 5) rfl
    have oc6 := r1.cell (i := 6) rfl
    have oc7 := r1.cell (i := 7) rfl
    have oc8 := r1.cell (i := 8) rfl
    have oc9 := r1.cell (i := 9) rfl
    have oc10 := r1.cell (i := 10) rfl
    by_cases hlt : k < qn
    · have q1 := fun P' => HBLK.out k wr P' hlt hbw
      have hki : (k : Int) < (qn : Int) := by omega
      have HBEL := Lib.hid hbel
      have HBW := Lib.hid hbw
      clear hbel hbw r1
      go_wp2_with fail
      refine q1 _ ?_
      intro w2 b2
      have b3 := HBEL.out.trans (b2.mono HBEL.out.size)
      have b4 := HBW.out.trans (b2.mono HBW.out.size)
      clear q1 b2 HBEL HBW oc0 oc1 oc2 oc3 oc4 oc5 oc6 oc7 oc8 oc9 oc10
      by_cases hz : codeD p q h k = 0
      · have hzq : (codeD p q h k == 0) = true := by rw [beq_iff_eq]; exact hz
        have hall2 : Hid (∀ c, c < k + 1 → codeD p q h c = 0) := fun j hj => by
          by_cases e : j = k
          · rw [e]; exact hz
          · exact hall.out j (by omega)
        have HZ := Lib.hid hz
        clear hall b4
        generalize codeD p q h k = cd at *
        go_wp2
        go_roundw
        case rel => exact ⟨k + 1, by omega, by go_num, b3, hall2⟩
        case measure => simp [intOf]; omega
      · have hzq : (codeD p q h k == 0) = false := by rw [beq_eq_false_iff_ne]; exact hz
        have HF := Lib.hid (HNO.out k w2 (by rw [← HQN.out]; exact hlt) hz hall.out b4)
        clear hall b3 b4 HNO HYES HBLK
        generalize codeD p q h k = cd at *
        go_wp2
        exact HF.out
    · obtain rfl : k = qn := by omega
      have HF := Lib.hid (HYES.out wr (fun c hc => hall.out c (by rw [HQN.out]; exact hc)) hbw)
      clear hall hbel hbw HNO HYES HBLK r1
      go_wp2
      exact HF.out

end Go.Proofs.YtblhmeidbjigaabGreatDoor

/- Validate, in package compare and in package twin. -/
set_option linter.unusedSimpArgs false
set_option linter.unusedVariables false
namespace Go.Proofs.YtblhmeidbjigaabGreatDoor
open Go.RowKit

theorem code_is_wrong {p q : ProgD} {h : List PingD} (hgp : progGood p = true) (hgq : progGood q = true) (hps : p.slots = 0) (hs : suitsD p q h) (hgh : goodHint h = true) {b : Nat} (hb : b < q.blocks.length) : codeD p q h b = wrongD p q h b := by
  obtain ⟨hpr, hpa, hpd, hpsl⟩ := good_shape hgp
  obtain ⟨hqr, hqa, hqd, hqsl⟩ := good_shape hgq
  have hbh : b < h.length := by rw [hs.1]; exact hb
  obtain ⟨hsl, hpl⟩ := hs.2 b hbh
  obtain ⟨hs0, hpos⟩ := goodHint_at hgh hbh
  have hsb : (hsrc h b).toNat < p.blocks.length := by omega
  obtain ⟨hp12, hpops⟩ := good_block hgp hsb
  obtain ⟨hq12, hqops⟩ := good_block hgq hb
  rw [hps] at hpops
  have F1 : ∀ k, k ≤ (srcOps p h b).length → ∀ i : Int, 0 ≤ i → i ≤ p.regs + 0 → (behindT p.regs 0 (plainNames p.regs 0) (srcOps p h b) k i).fine := fun k hk i h0 h1 => behindT_fine (by omega) (by omega) (plain_small (by omega)) hpops k hk i h0 h1
  have F2 : ∀ k, k ≤ (bops q.blocks b).length → ∀ i : Int, 0 ≤ i → i ≤ q.regs + q.slots → (behindT q.regs q.slots (namesOf (hpairs h b) (q.regs + q.slots).toNat) (bops q.blocks b) k i).fine := fun k hk i h0 h1 => behindT_fine (by omega) (by omega) (names_small (fun x hx => by have := (hpl x hx).1; omega) _) hqops k hk i h0 h1
  obtain ⟨m1, f1⟩ := marks_show (data := p.data) F1 hpops (by omega) (by omega) _ (Nat.le_refl _)
  obtain ⟨m2, f2⟩ := marks_show (data := q.data) F2 hqops (by omega) (by omega) _ (Nat.le_refl _)
  obtain ⟨⟨k1, r1, r1'⟩, _⟩ := good_end hgp hsb
  obtain ⟨⟨k2, r2, r2'⟩, _⟩ := good_end hgq hb
  refine code_wrong p q h b ⟨fun e => map_show_inj f1 f2 (by rw [← m1, ← m2]; exact e), fun e => by rw [m1, m2, e]⟩ k1 k2 (F1 _ (Nat.le_refl _) _ r1 (by have : (bfin p.blocks (hsrc h b).toNat).r < p.regs := r1'; omega)) (F2 _ (Nat.le_refl _) _ r2 (by have : (bfin q.blocks b).r < q.regs := r2'; omega))

set_option maxRecDepth 100000 in
set_option maxHeartbeats 4000000 in
theorem vVal_cps (s t g : ByteArray) (w : World) (hs : s.size ≤ maxLen) (ht : t.size ≤ maxLen) (hgz : g.size ≤ maxLen) (htab : TabW w) (Post : Ending → World → Prop)
    (hp : ∀ e n w', ValAns s t g e n → Below w.heap.size w w' → Post (.returned (.tuple #[.int .i64 e, .int .i64 n])) w') :
    Calls Tryz.prog 34 #[.string s, .string t, .string g] w Post := by
  have hc := cDecode_any s w hs
  have HP := Lib.hid hp
  clear hp
  go_enter Tryz.func34, Tryz.ntmps34
  go_wp2_with fail
  refine hc.mono ?_
  clear hc
  rintro e w1 ⟨hor, hb1⟩
  rcases hor with ⟨p, v, bv, rfl, ho, hd, hgp, htp⟩ | ⟨hn, rfl⟩
  case inr =>
    have HF := Lib.hid (HP.out 6 0 (w1.alloc (.cells #[.int .i64 0, .int .i64 0, .int .i64 0, .int .i64 0, .slice none 0 0] 25)) (.inl ⟨rfl, rfl, fun p hg he => absurd he (hn p hg)⟩) (hb1.alloc hb1.size _))
    clear hb1 hn HP
    go_wp2
    exact HF.out
  obtain ⟨po, pc, rfl⟩ := owns_slice ho.row
  have hrp0 := ho.rd
  rw [hd] at hrp0
  obtain ⟨pn, hpn⟩ : ∃ pn, pn = bv.length := ⟨_, rfl⟩
  have hpl : pn = p.blocks.length := by rw [hpn, ← hd, bdat_length]
  rw [← hpn] at hrp0 ⊢
  unfold progV
  have bp : Below w.heap.size w (w1.alloc (.cells #[.int .i64 p.args, .int .i64 p.regs, .int .i64 p.data, .int .i64 p.slots, .slice po pn pc] 25)) := hb1.alloc hb1.size _
  have bp1 : Below w1.heap.size w1 (w1.alloc (.cells #[.int .i64 p.args, .int .i64 p.regs, .int .i64 p.data, .int .i64 p.slots, .slice po pn pc] 25)) := (Below.refl _ _).alloc (Nat.le_refl _) _
  have rp1 : Row (w1.alloc (.cells #[.int .i64 p.args, .int .i64 p.regs, .int .i64 p.data, .int .i64 p.slots, .slice po pn pc] 25)) w1.heap.size 25 [.int .i64 p.args, .int .i64 p.regs, .int .i64 p.data, .int .i64 p.slots, .slice po pn pc] := heap_alloc_new w1 _
  have hrp1 := hrp0.keep bp1
  have HPL := Lib.hid hpl
  have HONE : Hid (∀ p', progGood p' = true → str (progText p') = s → p' = p) := fun p' hg he => prog_one hg hgp (he.trans htp.symm)
  have HTP := Lib.hid htp
  clear ho hd hrp0 hb1 bp1 hpn hpl htp
  by_cases hps : p.slots = 0
  case neg =>
    have HF := Lib.hid (HP.out 6 0 (w1.alloc (.cells #[.int .i64 p.args, .int .i64 p.regs, .int .i64 p.data, .int .i64 p.slots, .slice po pn pc] 25)) (.inl ⟨rfl, rfl, fun p' hg he => by rw [HONE.out p' hg he]; exact hps⟩) bp)
    have hq : (p.slots == 0) = false := by rw [beq_eq_false_iff_ne]; exact hps
    clear bp rp1 hrp1 HP
    go_wp2
    exact HF.out
  have hq0 : (p.slots == 0) = true := by rw [beq_iff_eq]; exact hps
  have HPS := Lib.hid hps
  have hc2 := cDecode_any t (w1.alloc (.cells #[.int .i64 p.args, .int .i64 p.regs, .int .i64 p.data, .int .i64 p.slots, .slice po pn pc] 25)) ht
  have HB := Lib.hid bp
  have HRP := Lib.hid hrp1
  have HRow := Lib.hid rp1
  clear hps bp hrp1 rp1
  go_wp2_with fail
  refine hc2.mono ?_
  clear hc2
  rintro e w2 ⟨hor2, hb2⟩
  have b2 := HB.out.trans (hb2.mono HB.out.size)
  have rp2 := HRow.out.keep hb2
  have hrp2 := HRP.out.keep hb2
  clear HB HRP HRow hq0
  rcases hor2 with ⟨q, v2, bv2, rfl, ho2, hd2, hgq, htq⟩ | ⟨hn2, rfl⟩
  case inr =>
    have HF := Lib.hid (HP.out 7 0 (w2.alloc (.cells #[.int .i64 0, .int .i64 0, .int .i64 0, .int .i64 0, .slice none 0 0] 25)) (.inr ⟨p, hgp, HTP.out, HPS.out, .inl ⟨rfl, rfl, hn2⟩⟩) (b2.alloc b2.size _))
    clear b2 hn2 HP rp2 hrp2 hb2
    go_wp2
    exact HF.out
  obtain ⟨qo, qc, rfl⟩ := owns_slice ho2.row
  have hrq0 := ho2.rd
  rw [hd2] at hrq0
  obtain ⟨qn, hqn⟩ : ∃ qn, qn = bv2.length := ⟨_, rfl⟩
  have hql : qn = q.blocks.length := by rw [hqn, ← hd2, bdat_length]
  rw [← hqn] at hrq0 ⊢
  unfold progV
  have bq1 : Below w2.heap.size w2 (w2.alloc (.cells #[.int .i64 q.args, .int .i64 q.regs, .int .i64 q.data, .int .i64 q.slots, .slice qo qn qc] 25)) := (Below.refl _ _).alloc (Nat.le_refl _) _
  have b3 : Below w.heap.size w (w2.alloc (.cells #[.int .i64 q.args, .int .i64 q.regs, .int .i64 q.data, .int .i64 q.slots, .slice qo qn qc] 25)) := b2.alloc b2.size _
  have rq3 : Row (w2.alloc (.cells #[.int .i64 q.args, .int .i64 q.regs, .int .i64 q.data, .int .i64 q.slots, .slice qo qn qc] 25)) w2.heap.size 25 [.int .i64 q.args, .int .i64 q.regs, .int .i64 q.data, .int .i64 q.slots, .slice qo qn qc] := heap_alloc_new w2 _
  have rp3 := rp2.keep bq1
  have hrp3 := hrp2.keep bq1
  have hrq3 := hrq0.keep bq1
  have HQL := Lib.hid hql
  have HTQ := Lib.hid htq
  have pa := fun o => (rp2.alloc o).cell (i := 0) rfl
  have pd := fun o => (rp2.alloc o).cell (i := 2) rfl
  clear ho2 hd2 hrq0 hb2 hqn hql htq b2 hrp2 bq1
  by_cases hsh : p.args = q.args ∧ p.data = q.data
  case neg =>
    have HF := Lib.hid (HP.out 8 0 (w2.alloc (.cells #[.int .i64 q.args, .int .i64 q.regs, .int .i64 q.data, .int .i64 q.slots, .slice qo qn qc] 25)) (.inr ⟨p, hgp, HTP.out, HPS.out, .inr ⟨q, hgq, HTQ.out, .inl ⟨rfl, rfl, hsh⟩⟩⟩) b3)
    clear b3 rq3 rp3 hrp3 hrq3 HP rp2
    by_cases ha : p.args = q.args
    · have e1 : (p.args == q.args) = true := by rw [beq_iff_eq]; exact ha
      have hdd : ¬ p.data = q.data := fun e => hsh ⟨ha, e⟩
      have e2 : (p.data == q.data) = false := by rw [beq_eq_false_iff_ne]; exact hdd
      have HA := Lib.hid ha
      clear ha hsh
      go_wp2
      exact HF.out
    · have e1 : (p.args == q.args) = false := by rw [beq_eq_false_iff_ne]; exact ha
      clear hsh
      go_wp2
      exact HF.out
  have HSH := Lib.hid hsh
  rw [hsh.1, hsh.2] at rp2 rp3
  clear pa pd
  have pa := fun o => (rp2.alloc o).cell (i := 0) rfl
  have pd := fun o => (rp2.alloc o).cell (i := 2) rfl
  have hc3 := cDecodeHint_any g (w2.alloc (.cells #[.int .i64 q.args, .int .i64 q.regs, .int .i64 q.data, .int .i64 q.slots, .slice qo qn qc] 25)) hgz
  have HB := Lib.hid b3
  have HRP := Lib.hid hrp3
  have HRQ := Lib.hid hrq3
  have HrP := Lib.hid rp3
  have HrQ := Lib.hid rq3
  clear hsh b3 hrp3 hrq3 rp3 rq3 rp2
  go_wp2_with fail
  refine hc3.mono ?_
  clear hc3
  rintro e w3 ⟨hor3, hb3⟩
  have b3 := HB.out.trans (hb3.mono HB.out.size)
  have rp3 := HrP.out.keep hb3
  have rq3 := HrQ.out.keep hb3
  have hrp3 := HRP.out.keep hb3
  have hrq3 := HRQ.out.keep hb3
  clear HB HRP HRQ HrP HrQ pa pd hb3
  have pp0 := fun o => (rp3.alloc o).cell (i := 0) rfl
  have qq0 := fun o => (rq3.alloc o).cell (i := 0) rfl
  have pp1 := fun o => (rp3.alloc o).cell (i := 1) rfl
  have qq1 := fun o => (rq3.alloc o).cell (i := 1) rfl
  have pp2 := fun o => (rp3.alloc o).cell (i := 2) rfl
  have qq2 := fun o => (rq3.alloc o).cell (i := 2) rfl
  have pp3 := fun o => (rp3.alloc o).cell (i := 3) rfl
  have qq3 := fun o => (rq3.alloc o).cell (i := 3) rfl
  have pp4 := fun o => (rp3.alloc o).cell (i := 4) rfl
  have qq4 := fun o => (rq3.alloc o).cell (i := 4) rfl
  rcases hor3 with ⟨v3, hv, rfl, ho3, hgh, hth⟩ | ⟨hn3, rfl⟩
  case inr =>
    have bC : Below w.heap.size w ((w3.alloc (.cells #[.slice none 0 0] 30)).alloc (.cells #[.int .i64 q.args, .int .i64 p.regs, .int .i64 q.data, .int .i64 p.slots, .slice po pn pc, .int .i64 q.args, .int .i64 q.regs, .int .i64 q.data, .int .i64 q.slots, .slice qo qn qc, .slice none 0 0] 120)) := (b3.alloc b3.size _).alloc (by have := b3.size; simp; omega) _
    have HF := Lib.hid (HP.out 2 0 _ (.inr ⟨p, hgp, HTP.out, HPS.out, .inr ⟨q, hgq, HTQ.out, .inr ⟨HSH.out, .inl ⟨rfl, rfl, fun h hg he => absurd he (hn3 h hg)⟩⟩⟩⟩) bC)
    clear b3 hn3 HP rp3 rq3 hrp3 hrq3 bC
    go_wp2
    exact HF.out
  obtain ⟨ho, hc, rfl⟩ := owns_slice ho3.row
  have hrh0 := ho3.rd
  obtain ⟨hn, hhn⟩ : ∃ hn, hn = hv.length := ⟨_, rfl⟩
  rw [← hhn] at hrh0 ⊢
  obtain ⟨h, hh⟩ : ∃ h, h = hdat hv := ⟨_, rfl⟩
  have hhl : hn = h.length := by rw [hhn, hh]; simp [hdat]
  rw [← hh] at hrh0 hgh hth
  have HHL := Lib.hid hhl
  have HTH := Lib.hid hth
  have HONEH : Hid (∀ h', goodHint h' = true → str (hintText h') = g → h' = h) := fun h' hg he => hint_one hg hgh (he.trans hth.symm)
  have bC0 : Below w3.heap.size w3 ((w3.alloc (.cells #[.slice ho hn hc] 30)).alloc (.cells #[.int .i64 q.args, .int .i64 p.regs, .int .i64 q.data, .int .i64 p.slots, .slice po pn pc, .int .i64 q.args, .int .i64 q.regs, .int .i64 q.data, .int .i64 q.slots, .slice qo qn qc, .slice ho hn hc] 120)) := ((Below.refl _ _).alloc (Nat.le_refl _) _).alloc (by simp) _
  have bC : Below w.heap.size w ((w3.alloc (.cells #[.slice ho hn hc] 30)).alloc (.cells #[.int .i64 q.args, .int .i64 p.regs, .int .i64 q.data, .int .i64 p.slots, .slice po pn pc, .int .i64 q.args, .int .i64 q.regs, .int .i64 q.data, .int .i64 q.slots, .slice qo qn qc, .slice ho hn hc] 120)) := b3.trans (bC0.mono b3.size)
  have rc : Row ((w3.alloc (.cells #[.slice ho hn hc] 30)).alloc (.cells #[.int .i64 q.args, .int .i64 p.regs, .int .i64 q.data, .int .i64 p.slots, .slice po pn pc, .int .i64 q.args, .int .i64 q.regs, .int .i64 q.data, .int .i64 q.slots, .slice qo qn qc, .slice ho hn hc] 120)) (w3.heap.size + 1) 120 [.int .i64 q.args, .int .i64 p.regs, .int .i64 q.data, .int .i64 p.slots, .slice po pn pc, .int .i64 q.args, .int .i64 q.regs, .int .i64 q.data, .int .i64 q.slots, .slice qo qn qc, .slice ho hn hc] := heap_alloc2_new w3 _ _
  have hrp4 := hrp3.keep bC0
  have hrq4 := hrq3.keep bC0
  have hrh4 := hrh0.keep bC0
  obtain ⟨hqr, hqa, hqd, hqsl⟩ := good_shape hgq
  have hadd : IntKind.i64.wrap (q.regs + q.slots) = q.regs + q.slots := by rw [IntKind.wrap_i64]; omega
  have qF := fun P' => vFit_cps q.args p.regs q.data p.slots q.args q.regs q.data q.slots po qo ho pn pc qn qc hn hc h ((w3.alloc (.cells #[.slice ho hn hc] 30)).alloc (.cells #[.int .i64 q.args, .int .i64 p.regs, .int .i64 q.data, .int .i64 p.slots, .slice po pn pc, .int .i64 q.args, .int .i64 q.regs, .int .i64 q.data, .int .i64 q.slots, .slice qo qn qc, .slice ho hn hc] 120)) hrh4 hadd P'
  have HB := Lib.hid bC
  have HRC := Lib.hid rc
  have HRP := Lib.hid hrp4
  have HRQ := Lib.hid hrq4
  have HRH := Lib.hid hrh4
  clear ho3 hhn hh hhl hth hrh0 b3 bC0 bC rc hrp3 hrq3 hrp4 hrq4 hrh4 rp3 rq3
  go_wp2_with fail
  refine qF _ ?_
  intro z w4 hz b4
  have HZ := Lib.hid hz
  have b5 := HB.out.trans (b4.mono HB.out.size)
  have rc4 := HRC.out.keep b4
  have hrp5 := HRP.out.keep b4
  have hrq5 := HRQ.out.keep b4
  have hrh5 := HRH.out.keep b4
  clear qF hz HB HRC HRP HRQ HRH b4 pp0 pp1 pp2 pp3 pp4 qq0 qq1 qq2 qq3 qq4
  cases z with
  | false =>
    have HF := Lib.hid (HP.out 2 0 w4 (.inr ⟨p, hgp, HTP.out, HPS.out, .inr ⟨q, hgq, HTQ.out, .inr ⟨HSH.out, .inl ⟨rfl, rfl, fun h' hg he hsu => by
      rw [HONEH.out h' hg he] at hsu
      have := HZ.out.2 ⟨by rw [HQL.out]; exact hsu.1, fun b hb => by rw [HPL.out]; exact hsu.2 b hb⟩
      cases this⟩⟩⟩⟩) b5)
    clear b5 rc4 hrp5 hrq5 hrh5 HP
    go_wp2
    exact HF.out
  | true =>
  have HSU : Hid (suitsD p q h) := by
    have h1 := HZ.out.1 rfl
    rw [HQL.out, HPL.out] at h1
    exact h1
  have hh0 : 0 < h.length := by
    simp only [goodHint, Bool.and_eq_true, decide_eq_true_eq] at hgh
    omega
  have qS := fun P' => vStart_cps q.args p.regs q.data p.slots q.args q.regs q.data q.slots po qo ho pn pc qn qc hn hc h hh0 w4 hrh5 P'
  have oc0 := rc4.cell (i := 0) rfl
  have oc1 := rc4.cell (i := 1) rfl
  have oc2 := rc4.cell (i := 2) rfl
  have oc3 := rc4.cell (i := 3) rfl
  have oc4 := rc4.cell (i := 4) rfl
  have oc5 := rc4.cell (i := 5) rfl
  have oc6 := rc4.cell (i := 6) rfl
  have oc7 := rc4.cell (i := 7) rfl
  have oc8 := rc4.cell (i := 8) rfl
  have oc9 := rc4.cell (i := 9) rfl
  have oc10 := rc4.cell (i := 10) rfl
  have HB := Lib.hid b5
  have HRC := Lib.hid rc4
  have HRP := Lib.hid hrp5
  have HRQ := Lib.hid hrq5
  have HRH := Lib.hid hrh5
  clear b5 rc4 hrp5 hrq5 hrh5 HZ
  go_wp2_with fail
  refine qS _ ?_
  intro z w5 hz b6
  have HZ := Lib.hid hz
  have b7 := HB.out.trans (b6.mono HB.out.size)
  have rc5 := HRC.out.keep b6
  have hrp6 := HRP.out.keep b6
  have hrq6 := HRQ.out.keep b6
  have hrh6 := HRH.out.keep b6
  clear qS hz HB HRC HRP HRQ HRH b6 oc0 oc1 oc2 oc3 oc4 oc5 oc6 oc7 oc8 oc9 oc10
  have HJ : Hid (∀ e n w', JudgedD p q h e n → Below w.heap.size w w' → Post (.returned (.tuple #[.int .i64 e, .int .i64 n])) w') := fun e n w' hj hb' =>
    HP.out e n w' (.inr ⟨p, hgp, HTP.out, HPS.out, .inr ⟨q, hgq, HTQ.out, .inr ⟨HSH.out, .inr ⟨h, hgh, HTH.out, HSU.out, hj⟩⟩⟩⟩) hb'
  have HST : Hid (startsD q h ↔ hsrc h 0 = 0 ∧ ∀ x ∈ hpairs h 0, x.place < q.regs ∧ (x.reg = x.place ∨ (q.args ≤ x.reg ∧ q.args ≤ x.place))) := Iff.rfl
  cases z with
  | false =>
    have HF := Lib.hid (HJ.out 9 0 w5 (.inl ⟨rfl, rfl, fun hq => by have := HZ.out.2 (HST.out.1 hq); cases this⟩) b7)
    clear b7 rc5 hrp6 hrq6 hrh6 HP HJ
    go_wp2
    exact HF.out
  | true =>
  have HSTT : Hid (startsD q h) := HST.out.2 (HZ.out.1 rfl)
  have qB := fun P' => vBlocks_cps p q po qo ho pc qc hc h hgp hgq HPS.out HSU.out hgh w5 (by rw [← HPL.out]; exact hrp6) (by rw [← HQL.out]; exact hrq6) (by rw [← HHL.out]; exact hrh6) (htab.keep b7) P'
  rw [← HPL.out, ← HQL.out, ← HHL.out, HSH.out.1, HSH.out.2] at qB
  have oc0 := rc5.cell (i := 0) rfl
  have oc1 := rc5.cell (i := 1) rfl
  have oc2 := rc5.cell (i := 2) rfl
  have oc3 := rc5.cell (i := 3) rfl
  have oc4 := rc5.cell (i := 4) rfl
  have oc5 := rc5.cell (i := 5) rfl
  have oc6 := rc5.cell (i := 6) rfl
  have oc7 := rc5.cell (i := 7) rfl
  have oc8 := rc5.cell (i := 8) rfl
  have oc9 := rc5.cell (i := 9) rfl
  have oc10 := rc5.cell (i := 10) rfl
  have HB := Lib.hid b7
  clear b7 rc5 hrp6 hrq6 hrh6 HZ
  go_wp2_with fail
  refine qB _ ?_ ?_
  · intro b w6 hb hne hall b8
    have hW := fun c (hc : c < q.blocks.length) => code_is_wrong hgp hgq HPS.out HSU.out hgh hc
    rw [← HQL.out] at hW
    have HF := Lib.hid (HJ.out (codeD p q h b) b w6 (.inr ⟨HSTT.out, .inl ⟨b, by rw [← HQL.out]; exact hb, rfl, hW b hb, hne, fun c hc => by rw [← hW c (by omega)]; exact hall c hc⟩⟩) (HB.out.trans (b8.mono HB.out.size)))
    clear qB hW hne hall b8 HJ HP HB
    generalize codeD p q h b = cd at *
    go_wp2
    exact HF.out
  · intro w6 hall b8
    have hW := fun c (hc : c < q.blocks.length) => code_is_wrong hgp hgq HPS.out HSU.out hgh hc
    rw [← HQL.out] at hW
    have HF := Lib.hid (HJ.out 0 0 w6 (.inr ⟨HSTT.out, .inr ⟨rfl, rfl, fun c hc => by rw [← HQL.out] at hc; rw [← hW c hc]; exact hall c hc⟩⟩) (HB.out.trans (b8.mono HB.out.size)))
    clear qB hW hall b8 HJ HP HB
    go_wp2
    exact HF.out

set_option maxRecDepth 100000 in
set_option maxHeartbeats 1000000 in
theorem tVal_cps (s t g : ByteArray) (w : World) (hs : s.size ≤ maxLen) (ht : t.size ≤ maxLen) (hgz : g.size ≤ maxLen) (htab : TabW w) (Post : Ending → World → Prop)
    (hp : ∀ e n w', ValAns s t g e n → Below w.heap.size w w' → Post (.returned (.tuple #[.int .i64 e, .int .i64 n])) w') :
    Calls Tryz.prog 22 #[.string s, .string t, .string g] w Post := by
  have q := fun P' => vVal_cps s t g w hs ht hgz htab P'
  go_enter Tryz.func22, Tryz.ntmps22
  go_wp2_with fail
  refine q _ ?_
  intro e n w1 ha hb
  have HF := Lib.hid (hp e n w1 ha hb)
  clear q ha hb hp
  go_wp2
  exact HF.out

end Go.Proofs.YtblhmeidbjigaabGreatDoor

/- Are the two, with the hint, well made, and twins (twinkeep.accepted)? -/
set_option linter.unusedSimpArgs false
set_option linter.unusedVariables false
namespace Go.Proofs.YtblhmeidbjigaabGreatDoor
open Go.RowKit

set_option maxRecDepth 100000 in
set_option maxHeartbeats 4000000 in
theorem accepted_cps (p q : ProgD) (h : List PingD) (pv qv hv : Value) (w : World) (hp : RdBlocks w pv p.blocks) (hq : RdBlocks w qv q.blocks) (hh : RdHint w hv h)
    (gp : progGood p = true) (gq : progGood q = true) (gh : goodHint h = true) (htab : TabW w) (hv0 : ValAns (str (progText p)) (str (progText q)) (str (hintText h)) 0 0) (Post : Ending → World → Prop)
    (hpost : ∀ w', Below w.heap.size w w' → Post (.returned (.bool true)) w') :
    Calls Tryz.prog 12 #[.agg #[.int .i64 p.args, .int .i64 p.regs, .int .i64 p.data, .int .i64 p.slots, pv], .agg #[.int .i64 q.args, .int .i64 q.regs, .int .i64 q.data, .int .i64 q.slots, qv], .agg #[hv]] w Post := by
  obtain ⟨po, pc, e0, _, _⟩ := id hp
  subst e0
  obtain ⟨qo, qc, e0, _, _⟩ := id hq
  subst e0
  obtain ⟨ho, hc, e0, _, _⟩ := id hh
  subst e0
  have sp := progText_small gp
  have sq := progText_small gq
  have sh := hintText_small gh
  obtain ⟨wA, hwA⟩ : ∃ x, x = ((w.alloc (.cells #[.int .i64 p.args, .int .i64 p.regs, .int .i64 p.data, .int .i64 p.slots, .slice po p.blocks.length pc] 25)).alloc (.cells #[.int .i64 q.args, .int .i64 q.regs, .int .i64 q.data, .int .i64 q.slots, .slice qo q.blocks.length qc] 25)).alloc (.cells #[.slice ho h.length hc] 30) := ⟨_, rfl⟩
  have b0 : Below w.heap.size w wA := by subst hwA; exact (((Below.refl w.heap.size w).alloc (Nat.le_refl _) _).alloc (by simp) _).alloc (by simp; omega) _
  have rQ : Row wA (w.heap.size + 1) 25 [.int .i64 q.args, .int .i64 q.regs, .int .i64 q.data, .int .i64 q.slots, .slice qo q.blocks.length qc] := by subst hwA; exact Row.alloc (heap_alloc2_new w _ _) _
  have rH : Row wA (w.heap.size + 2) 30 [.slice ho h.length hc] := by
    subst hwA
    have q := heap_alloc2_new (w.alloc (.cells #[.int .i64 p.args, .int .i64 p.regs, .int .i64 p.data, .int .i64 p.slots, .slice po p.blocks.length pc] 25)) (.cells #[.int .i64 q.args, .int .i64 q.regs, .int .i64 q.data, .int .i64 q.slots, .slice qo q.blocks.length qc] 25) (.cells #[.slice ho h.length hc] 30)
    simp only [World.size_alloc] at q
    exact q
  have c1 := kText_any p.args p.regs p.data p.slots _ p.blocks wA (hp.keep b0) gp
  have c2 := fun w2 (b : Below w.heap.size w w2) => kText_any q.args q.regs q.data q.slots _ q.blocks w2 (hq.keep b) gq
  have c3 := fun w2 (b : Below w.heap.size w w2) => kHintText_any _ h w2 (hh.keep b) gh
  have c4 := fun w2 (b : Below w.heap.size w w2) P' => tVal_cps _ _ _ w2 sp sq sh (htab.keep b) P'
  have HV := Lib.hid hv0
  have HP := Lib.hid hpost
  have HB := Lib.hid b0
  have HRQ := Lib.hid rQ
  have HRH := Lib.hid rH
  clear hp hq hh gp gq gh htab hv0 hpost b0 rQ rH sp sq sh
  generalize str (progText p) = S at *
  generalize str (progText q) = T at *
  generalize str (hintText h) = G at *
  subst hwA
  obtain ⟨a0, a1, a2, a3, pb⟩ := p
  obtain ⟨d0, d1, d2, d3, qb⟩ := q
  dsimp only at *
  go_enter Tryz.func12, Tryz.ntmps12
  go_wp2_with fail
  refine c1.mono ?_
  rintro e w1 ⟨rfl, hb⟩
  have b1 := HB.out.trans (hb.mono (by simp; omega))
  have rQ1 := HRQ.out.keep hb
  have HRH1 := Lib.hid (HRH.out.keep hb)
  have x0 := rQ1.cell (i := 0) rfl
  have x1 := rQ1.cell (i := 1) rfl
  have x2 := rQ1.cell (i := 2) rfl
  have x3 := rQ1.cell (i := 3) rfl
  have x4 := rQ1.cell (i := 4) rfl
  have c2' := c2 w1 b1
  have HB1 := Lib.hid b1
  clear c1 c2 hb HB HRQ HRH b1 rQ1
  go_wp2_with fail
  refine c2'.mono ?_
  rintro e w2 ⟨rfl, hb⟩
  have b2 := HB1.out.trans (hb.mono HB1.out.size)
  have rH2 := HRH1.out.keep hb
  have x0 := rH2.cell (i := 0) rfl
  have c3' := c3 w2 b2
  have HB2 := Lib.hid b2
  clear c2' c3 hb HB1 HRH1 b2 rH2 x1 x2 x3 x4
  go_wp2_with fail
  refine c3'.mono ?_
  rintro e w3 ⟨rfl, hb⟩
  have b3 := HB2.out.trans (hb.mono HB2.out.size)
  have c4' := c4 w3 b3
  have HB3 := Lib.hid b3
  clear c3' c4 hb HB2 b3 x0
  go_wp2_with fail
  refine c4' _ ?_
  intro e n w4 hva hb
  obtain ⟨rfl, rfl⟩ := hva.one HV.out
  have HF := Lib.hid (HP.out w4 (HB3.out.trans (hb.mono HB3.out.size)))
  clear c4' hva hb HB3 HP HV
  go_wp2
  exact HF.out

end Go.Proofs.YtblhmeidbjigaabGreatDoor

/- A hint that came in, read. -/
set_option linter.unusedSimpArgs false
set_option linter.unusedVariables false
namespace Go.Proofs.YtblhmeidbjigaabGreatDoor
open Go.RowKit Go.ChangeShapes Go.WideShapes Go.ChangeAt Go.Deep

theorem Tryz.cellsInt : Tryz.prog.cellsOf 3 = 1 := by kernel_rfl
section
variable {H : Type} {enc : TypeId × Value → H} {w : World} {spare : Nat → Bool} {held : Bool}

theorem cells_get {base n : Nat} {a : Addr} {cs : List Value} (h : w.cells? base a n = some cs) : cs.length = n ∧ ∀ i (hi : i < cs.length), w.cell? (a.add i) = some cs[i] := by
  obtain ⟨_, hl, hc⟩ := World.cells?_some h
  refine ⟨hl, fun i hi => ?_⟩
  have := hc i (by omega)
  rw [List.getElem?_eq_getElem hi] at this
  exact this

/-- The address of a slice's first cell, where there is one. -/
theorem addr_lit {a : Addr} {v : Value} (h : w.cell? (a.add 0) = some v) : a = ⟨a.block, a.off, none⟩ := by
  have e : a.add 0 = a := by simp [Addr.add]
  rw [e] at h
  have hs := World.cell?_spot h
  cases a
  simp at hs
  rw [hs]

end

end Go.Proofs.YtblhmeidbjigaabGreatDoor

/- A list of words that came in, read. -/
set_option linter.unusedSimpArgs false
set_option linter.unusedVariables false
namespace Go.Proofs.YtblhmeidbjigaabGreatDoor
open Go.RowKit Go.ChangeShapes Go.WideShapes Go.ChangeAt Go.Deep

theorem Tryz.bytesInt : Tryz.prog.bytesOf 3 = 8 := by kernel_rfl

/-- Words: within 64 bits. -/
def Wide (l : List Int) : Prop := ∀ x ∈ l, -9223372036854775808 ≤ x ∧ x ≤ 9223372036854775807

section
variable {H : Type} {enc : TypeId × Value → H} {w : World} {spare : Nat → Bool} {held : Bool}

theorem open_words {fuel : Nat} {v : Value} {x : DataW H × List MemPlace} (h : DataW.trod enc Tryz.prog w 0 spare held fuel 22 [v] = some x) (hs : ∀ n ∈ x.1.weights Tryz.prog 22, n ≤ reachBytes) :
    ∃ l, RdWords w v l ∧ l.length ≤ 17592186044416 ∧ Wide l := by
  rcases open_slice Tryz.underlying22 h with ⟨e, _⟩ | ⟨a, len, cap, m, n, D, Pl, e, _, hlc, hcm, hm, hx, hel⟩
  · simp at e
    subst e
    exact ⟨[], rdWords_nil w, by simp, fun x hx => by cases hx⟩
  · simp at e
    subst e
    have hlm : len ≤ m := by rw [hm]; split <;> omega
    have key : ∀ i, i < len → ∃ p : Int, w.cell? (a.add i) = some (.int .i64 p) ∧ -9223372036854775808 ≤ p ∧ p ≤ 9223372036854775807 := by
      intro i hi
      obtain ⟨cs', hc, ht⟩ := hel i (by omega)
      rw [Tryz.cellsInt] at hc
      obtain ⟨x0, rfl, _, hwf⟩ := DataW.trod_int Tryz.underlying3 ht
      have := (cells_get hc).2
      refine ⟨x0, ?_, ?_⟩
      · have := this 0 (by simp); simpa [add_add] using this
      · simp only [Lit.wf, Bool.and_eq_true, decide_eq_true_eq] at hwf
        exact ⟨Int.le_trans (by decide) hwf.1, Int.le_trans hwf.2 (by decide)⟩
    obtain ⟨f, hf⟩ := @choose_lt Int ⟨0⟩ len _ key
    have hw : len * 8 ≤ reachBytes := by
      have := hs ((len + (m - len)) * 8) (by rw [hx]; simp [DataW.weights, Tryz.underlying22, Tryz.bytesInt])
      omega
    have hlen : len ≤ 17592186044416 := by unfold reachBytes at hw; omega
    refine ⟨(List.range len).map f, ⟨some a, cap, by simp, by simp; omega, fun i hi => ?_⟩, by simpa using hlen, ?_⟩
    · have hi' : i < len := by simpa using hi
      obtain ⟨c1, _⟩ := hf i hi'
      have ha := addr_lit (by simpa using (hf 0 (by omega)).1)
      rw [ha, Addr.add_lit] at c1
      refine ⟨a.block, a.off, by rw [← ha], ?_⟩
      rw [c1]; simp [List.getD, hi']
    · intro x hx
      obtain ⟨i, hi, rfl⟩ := List.mem_map.1 hx
      exact (hf i (by simpa using hi)).2

set_option maxRecDepth 100000 in
theorem open_words_arg {v : Value} {d : DataW H} {p : List MemPlace} {r : Reach} {b0 : Nat} (hv : Value.okWide Tryz.prog w r b0 22 v) (h : DataW.Trod enc Tryz.prog w 0 spare held 22 v d p) (hs : ∀ n ∈ d.weights Tryz.prog 22, n ≤ reachBytes) :
    ∃ l, RdWords w v l ∧ l.length ≤ 17592186044416 ∧ Wide l := by
  obtain ⟨a, len, cap, rfl⟩ := okWide_slice Tryz.underlying22 hv
  obtain ⟨fuel, hf⟩ := h
  exact open_words (x := (d, p)) (by simpa [Value.cells] using hf) hs

end

end Go.Proofs.YtblhmeidbjigaabGreatDoor

/- twinkeep.Same: a source is its own twin. -/
set_option linter.unusedSimpArgs false
set_option linter.unusedVariables false
namespace Go.Proofs.YtblhmeidbjigaabGreatDoor
open Go.RowKit Go.Deep

theorem RdWords.rawI {w : World} {v : Value} {l : List Int} (h : RdWords w v l) (hw : Wide l) : RdInts w v l.length := by
  obtain ⟨ao, cap, rfl, hl, hc⟩ := h
  refine ⟨ao, cap, rfl, hl, fun i hi => ?_⟩
  obtain ⟨b, off, e, h1⟩ := hc i hi
  have hm : l.getD i 0 ∈ l := getD_mem' hi
  exact ⟨b, off, _, e, (hw _ hm).1, (hw _ hm).2, h1⟩

theorem bdat_ops {bv : List (BlockD × Value)} {n : Int} (h : ∀ x ∈ bv, (x.1.ops.length : Int) ≤ n) : ∀ b, b < (bdat bv).length → ((bops (bdat bv) b).length : Int) ≤ n := by
  intro b hb
  have hb' : b < bv.length := by simpa [bdat] using hb
  have := h bv[b] (List.getElem_mem hb')
  simpa [bops, bdat, List.getD, hb'] using this

end Go.Proofs.YtblhmeidbjigaabGreatDoor

/- twinkeep.Swapped: operations that have nothing to do with one another may change over. -/
set_option linter.unusedSimpArgs false
set_option linter.unusedVariables false
namespace Go.Proofs.YtblhmeidbjigaabGreatDoor
open Go.RowKit Go.Deep

theorem below_set4 {B : Nat} {w w' : World} (h : Below B w w') {g o : Nat} (hg : B ≤ g) (a b c d : Int) : Below B w (set4 w' g o a b c d) :=
  (((h.setCell (p := ⟨g, o, none⟩) hg _).setCell (p := ⟨g, o + 1, none⟩) hg _).setCell (p := ⟨g, o + 2, none⟩) hg _).setCell (p := ⟨g, o + 3, none⟩) hg _

theorem row_unset4 {w : World} {R : Nat} {t : TypeId} {xs : List Value} (h : Row w R t xs) {g o : Nat} (hg : R ≠ g) (a b c d : Int) : Row (set4 w g o a b c d) R t xs :=
  (((h.unset (a := ⟨g, o, none⟩) hg _).unset (a := ⟨g, o + 1, none⟩) hg _).unset (a := ⟨g, o + 2, none⟩) hg _).unset (a := ⟨g, o + 3, none⟩) hg _

set_option maxHeartbeats 400000 in
theorem pick_det (c n : Int) (hc : -9223372036854775808 ≤ c ∧ c ≤ 9223372036854775807) (hn : 1 ≤ n ∧ n ≤ 1000) :
    ∃ x : Nat, (x : Int) < n ∧ ∀ w, Calls Tryz.prog 16 #[.int .i64 c, .int .i64 n] w fun e w' => e = .returned (.int .i64 x) ∧ ∃ m, w' = w.drewN m := by
  by_cases h0 : c < 0
  · obtain ⟨x, hx⟩ := Int.eq_ofNat_of_zero_le (show 0 ≤ (-(c + 1)).tmod n from Int.tmod_nonneg _ (by omega))
    have hlt : (-(c + 1)).tmod n < n := by rw [Int.tmod_eq_emod_of_nonneg (by omega)]; exact Int.emod_lt_of_pos _ (by omega)
    refine ⟨x, by omega, fun w => ?_⟩
    rw [Int.neg_tmod] at hx
    have HX := Lib.hid hx
    clear hx hlt
    go_enter Tryz.func16, Tryz.ntmps16
    go_wp2
    go_ret
    exact ⟨by first | (rw [← HX.out]; done) | (rw [← HX.out]; rfl) | simp [← HX.out], 0, rfl⟩
  · obtain ⟨x, hx⟩ := Int.eq_ofNat_of_zero_le (Int.emod_nonneg c (show n ≠ 0 by omega))
    have hlt := Int.emod_lt_of_pos c (show 0 < n by omega)
    refine ⟨x, by omega, fun w => ?_⟩
    have HX := Lib.hid hx
    clear hx hlt
    go_enter Tryz.func16, Tryz.ntmps16
    go_wp2
    go_ret
    exact ⟨by first | (rw [← HX.out]; done) | (rw [← HX.out]; rfl) | simp [← HX.out], 0, rfl⟩

/-- The loop's state. -/
structure SwSt (wc wr : World) (Qb : Nat) (a0 a1 a2 : Int) (l0 : List BlockD) (qg n qc : Nat) (qv : List (BlockD × Value)) : Prop where
  len : qv.length = n
  ok : SwpOk a0 a1 a2 l0 (bdat qv)
  low : ∀ x ∈ qv, ∀ g, x.2.ownBlock = some g → g < Qb
  row : Row wr Qb 25 [.int .i64 a0, .int .i64 a1, .int .i64 a2, .int .i64 0, .slice (some ⟨qg, 0, none⟩) n qc]
  own : OwnBlocks wr wc.heap.size (.slice (some ⟨qg, 0, none⟩) n qc) qv
  below : Below wc.heap.size wc wr

theorem SwSt.keep {wc wr W : World} {Qb : Nat} {a0 a1 a2 : Int} {l0 : List BlockD} {qg n qc : Nat} {qv : List (BlockD × Value)} (h : SwSt wc wr Qb a0 a1 a2 l0 qg n qc qv) (hb : Below wr.heap.size wr W) : SwSt wc W Qb a0 a1 a2 l0 qg n qc qv :=
  ⟨h.len, h.ok, h.low, h.row.keep hb, h.own.below hb (Nat.le_refl _), h.below.trans (hb.mono h.below.size)⟩

theorem bdat_set (qv : List (BlockD × Value)) (b : Nat) (B : BlockD) (v : Value) : bdat (qv.set b (B, v)) = (bdat qv).set b B := by
  simp [bdat, List.map_set]

theorem SwSt.swap {wc wr : World} {Qb : Nat} {a0 a1 a2 : Int} {l0 : List BlockD} {qg n qc : Nat} {qv : List (BlockD × Value)} (h : SwSt wc wr Qb a0 a1 a2 l0 qg n qc qv) {b i g : Nat} (hb : b < qv.length) (hbl : b < l0.length) (hg : qv[b].2.ownBlock = some g) (hi : i + 1 < qv[b].1.ops.length)
    {x0 x1 x2 x3 y0 y1 y2 y3 : Int} (hx : qv[b].1.ops.getD i oz = ⟨x0, x1, x2, x3⟩) (hy : qv[b].1.ops.getD (i + 1) oz = ⟨y0, y1, y2, y3⟩) (hl : looseK ⟨x0, x1, x2, x3⟩ ⟨y0, y1, y2, y3⟩) :
    SwSt wc (set4 (set4 wr g (i * 4) y0 y1 y2 y3) g ((i + 1) * 4) x0 x1 x2 x3) Qb a0 a1 a2 l0 qg n qc (qv.set b (⟨(qv[b].1.ops.set i ⟨y0, y1, y2, y3⟩).set (i + 1) ⟨x0, x1, x2, x3⟩, qv[b].1.fin⟩, qv[b].2)) := by
  have hgQ := h.low _ (List.getElem_mem hb) g hg
  have hgB := ((h.own.each _ (List.getElem_mem hb)).lt g hg).1
  obtain ⟨e1, e2⟩ := bdat_get qv hb
  have o1 := h.own.setOp hb hg (j := i) (by omega) y0 y1 y2 y3
  have hb1 : b < (qv.set b (⟨qv[b].1.ops.set i ⟨y0, y1, y2, y3⟩, qv[b].1.fin⟩, qv[b].2)).length := by rw [List.length_set]; exact hb
  have o2 := o1.setOp hb1 (g := g) (by simpa using hg) (j := i + 1) (by simpa using hi) x0 x1 x2 x3
  simp only [List.getElem_set_self, List.set_set] at o2
  refine ⟨by rw [List.length_set]; exact h.len, ?_, ?_, row_unset4 (row_unset4 h.row (by omega) _ _ _ _) (by omega) _ _ _ _, o2, below_set4 (below_set4 h.below hgB _ _ _ _) hgB _ _ _ _⟩
  · have st := h.ok.step (b := b) (i := i) hbl (by rw [e1]; exact hi) (by rw [e1, hx, hy]; exact hl)
    rw [e1, e2, hx, hy] at st
    rw [bdat_set]
    exact st
  · intro x hx2 g' hg'
    rcases List.mem_or_eq_of_mem_set hx2 with hx2 | rfl
    · exact h.low x hx2 g' hg'
    · exact h.low _ (List.getElem_mem hb) g' hg'

set_option maxRecDepth 100000 in
set_option maxHeartbeats 1500000 in
theorem swapped_cps (ao : Option Addr) (rn cap : Nat) (so : Option Addr) (sn sc : Nat) (w : World) (hraw : RdInts w (.slice ao rn cap) rn) (hsw : RdInts w (.slice so sn sc) sn) (htab : TabW w) (hsmall : sn ≤ 4611686018427387903) (Post : Ending → World → Prop)
    (hp : ∀ w', Below w.heap.size w w' → Post (.returned (.bool true)) w') :
    Calls Tryz.prog 5 #[.slice ao rn cap, .slice so sn sc] w Post := by
  have q1 := fun P' => built_cps ao rn cap 1 8 7 w (by omega) (by omega) (by omega) hraw P'
  have HP := Lib.hid hp
  clear hp
  go_enter Tryz.func5, Tryz.ntmps5
  go_wp2_with fail
  refine q1 _ ?_
  intro a0 a1 a2 v bv w1 gp hl1 hl2 hops ho hb1
  obtain ⟨bo, bc, rfl⟩ := owns_slice ho.row
  have hlen6 : 1 ≤ bv.length ∧ bv.length ≤ 6 := by
    have := progGood_len gp
    simpa [bdat_length] using this
  obtain ⟨n, hn⟩ : ∃ n, n = bv.length := ⟨_, rfl⟩
  obtain ⟨l0, hl0⟩ : ∃ l0, l0 = bdat bv := ⟨_, rfl⟩
  have hln : n = l0.length := by rw [hl0, bdat_length, hn]
  have hrd := OwnBlocks.rd ho
  have sp := bdat_ops hops
  rw [← hl0] at hrd gp sp
  rw [← hn] at hrd hlen6 ⊢
  have HLN := Lib.hid hln
  obtain ⟨wc, hwc⟩ : ∃ x, x = w1.alloc (.cells #[.int .i64 a0, .int .i64 a1, .int .i64 a2, .int .i64 0, .slice bo n bc] 25) := ⟨_, rfl⟩
  have b1c : Below w1.heap.size w1 wc := by subst hwc; exact (Below.refl _ _).alloc (Nat.le_refl _) _
  have rP : Row wc w1.heap.size 25 [.int .i64 a0, .int .i64 a1, .int .i64 a2, .int .i64 0, .slice bo n bc] := by subst hwc; exact heap_alloc_new w1 _
  have bwc : Below w.heap.size w wc := hb1.trans (b1c.mono hb1.size)
  have rdc := hrd.keep b1c
  have q2 := fun P' => clone_cps a0 a1 a2 0 bo bc l0 wc (by rw [← hln]; exact rdc) (by omega) (fun b hb => by have := sp b hb; omega) P'
  rw [← hln] at q2
  rw [hwc] at q2
  have HWC := Lib.hid hwc
  have HRP := Lib.hid rP
  have HBW := Lib.hid bwc
  have HRD := Lib.hid rdc
  have HG := Lib.hid gp
  have HSP := Lib.hid sp
  have HTB := Lib.hid htab
  have HSW := Lib.hid hsw
  clear q1 ho hops hb1 hrd hn hl0 hln b1c rP bwc rdc hwc gp sp htab hsw hraw
  go_wp2_with fail
  refine q2 _ ?_
  intro v qv w2 hd hoq hb2
  obtain ⟨qo, qc, hv⟩ := owns_slice hoq.row
  have hqn : qv.length = n := by
    have := congrArg List.length hd.out
    rw [bdat_length] at this
    rw [this, ← HLN.out]
  rw [hqn] at hv
  subst hv
  rw [← HWC.out] at hb2 hoq
  obtain ⟨qg, hqo, hjunk⟩ := ownBlocks_at hoq (i := 0) (by omega)
  clear hjunk
  subst hqo
  obtain ⟨w3, hw3⟩ : ∃ x, x = w2.alloc (.cells #[.int .i64 a0, .int .i64 a1, .int .i64 a2, .int .i64 0, .slice (some ⟨qg, 0, none⟩) n qc] 25) := ⟨_, rfl⟩
  have b23 : Below w2.heap.size w2 w3 := by subst hw3; exact (Below.refl _ _).alloc (Nat.le_refl _) _
  have S3 : SwSt wc w3 w2.heap.size a0 a1 a2 l0 qg n qc qv :=
    ⟨hqn, by rw [hd.out]; exact SwpOk.refl HG.out, fun x hx g hg => ((hoq.each x hx).lt g hg).2, by subst hw3; exact heap_alloc_new w2 _, hoq.below b23 (Nat.le_refl _), hb2.trans (b23.mono hb2.size)⟩
  have HS3 := Lib.hid S3
  have HW3 := Lib.hid hw3
  clear q2 hd hoq hb2 hqn hw3 b23 S3
  go_wp2
  rw [← HW3.out]
  clear HW3
  generalize w2.heap.size = Qb at *
  go_loopw [7] (fun i wr => ∃ (k : Nat) (qv : List (BlockD × Value)), k ≤ sn + 1 ∧ i = .int .i64 k ∧ SwSt wc wr Qb a0 a1 a2 l0 qg n qc qv)
    (fun i _ => sn + 2 - (intOf i).toNat)
  case atStart => exact ⟨0, qv, by omega, rfl, HS3.out⟩
  case round =>
    clear HS3
    obtain ⟨k, qv, hk, rfl, S⟩ := hrel
    by_cases hlt : k + 1 < sn
    · have bw : Below w.heap.size w wr := HBW.out.trans (S.below.mono HBW.out.size)
      obtain ⟨so', sc', e0, hsl, hsc⟩ := HSW.out
      simp only [Value.slice.injEq, true_and] at e0
      obtain ⟨rfl, rfl⟩ := e0
      obtain ⟨sb, soff, c0, rfl, hc0a, hc0b, s0⟩ := hsc k (by omega)
      obtain ⟨sb', soff', c1, e0, hc1a, hc1b, s1⟩ := hsc (k + 1) hlt
      simp only [Option.some.injEq, Addr.mk.injEq, and_true] at e0
      obtain ⟨rfl, rfl⟩ := e0
      obtain ⟨b, hbx, hpk⟩ := pick_det c0 n ⟨hc0a, hc0b⟩ (by omega)
      have hbn : b < n := by omega
      have hbq : b < qv.length := by rw [S.len]; exact hbn
      obtain ⟨g0', hqe, _, hcell, _⟩ := ownBlocks_at S.own hbq
      simp only [Option.some.injEq, Addr.mk.injEq, and_true] at hqe
      subst hqe
      obtain ⟨lo, lc, hlv⟩ := owns_slice (S.own.each _ (List.getElem_mem hbq))
      obtain ⟨ln, hln⟩ : ∃ ln, ln = qv[b].1.ops.length := ⟨_, rfl⟩
      rw [← hln] at hlv
      rw [hlv] at hcell
      have y4 := S.row.cell (i := 4) rfl
      have z0 := cell_keep bw s0
      have k0 := fun d => below_drewN (Below.refl wr.heap.size wr) d
      have hki : (0 : Int) ≤ (k : Int) := by omega
      have hkj : (k : Int) < (sn : Int) := by omega
      have hbi : (0 : Int) ≤ (b : Int) := by omega
      have hbj : (b : Int) < (n : Int) := by omega
      have HS := Lib.hid S
      have HSC1 := Lib.hid s1
      have HBWR := Lib.hid bw
      clear S bw hsc s0 s1
      have HLV := Lib.hid hlv
      have HLNN := Lib.hid hln
      have hbl0 : b < l0.length := by rw [← HLN.out]; omega
      have hln7 : ln ≤ 7 := by
        have h1 := (HS.out.ok.each b hbl0).2.1
        rw [(bdat_get qv hbq).1] at h1
        have h2 := HSP.out b (by rw [← HLN.out]; omega)
        rw [hln, h1]
        omega
      clear hlv hln
      by_cases hl2' : ln < 2
      · have e1 : decide ((ln : Int) < 2) = true := by simp; omega
        have e2 : (ln : Int) < 2 := by omega
        have S2 := Lib.hid (fun d => HS.out.keep (k0 d))
        clear HS HLV HLNN k0
        go_wp2
        go_quiet (first | exact Calls.quiet_of (hpk _) | exact quiet1 (hpk _) | exact quiet2 (hpk _) | exact quiet3 (hpk _))
        go_wp2
        go_roundw
        case rel => exact ⟨k + 2, qv, by omega, by go_num, S2.out _⟩
        case measure => simp [intOf]; omega
      have e1 : decide ((ln : Int) < 2) = false := by simp; omega
      have e2 : ¬ ((ln : Int) < 2) := by omega
      have s1 : wr.cell? ⟨sb, soff + (k + 1), none⟩ = some (.int .i64 c1) := cell_keep HBWR.out HSC1.out
      have hk1i : (0 : Int) ≤ (k : Int) + 1 := by omega
      have hk1j : (k : Int) + 1 < (sn : Int) := by omega
      obtain ⟨i, hx3, hpk2⟩ := pick_det c1 ((ln : Int) - 1) ⟨hc1a, hc1b⟩ (by omega)
      go_wp2
      go_quiet (first | exact Calls.quiet_of (hpk _) | exact quiet1 (hpk _) | exact quiet2 (hpk _) | exact quiet3 (hpk _))
      revert nq
      intro n1
      obtain ⟨wd, hwd⟩ : ∃ x, x = wr.drewN n1 := ⟨_, rfl⟩
      have kd : Below wr.heap.size wr wd := by rw [hwd]; exact k0 n1
      have s1d := cell_keep kd s1
      have q4 := hpk2 wd
      rw [hwd] at q4 s1d
      clear y4 z0 hcell hpk
      go_wp2_with fail
      refine q4.mono ?_
      rintro er w4 ⟨rfl, m4, hw4⟩
      have k4 : Below wr.heap.size wr w4 := by rw [hw4]; exact below_drewN (k0 n1) m4
      clear hw4 q4 s1d s1 kd hwd wd hpk2
      have hi1 : i + 1 < ln := by omega
      have hopl : i + 1 < qv[b].1.ops.length := by rw [← HLNN.out]; exact hi1
      have hrow := HS.out.own.each _ (List.getElem_mem hbq)
      rw [HLV.out, HLNN.out] at hrow
      obtain ⟨g, hlo, hgB, gx0, gx1, gx2, gx3, _⟩ := owns_ops_at hrow (j := i) (by omega)
      obtain ⟨g', hlo', _, gy0, gy1, gy2, gy3, _⟩ := owns_ops_at hrow (j := i + 1) hopl
      rw [hlo] at hlo'
      simp only [Option.some.injEq, Addr.mk.injEq, and_true] at hlo'
      subst hlo'
      subst hlo
      obtain ⟨X, hX⟩ : ∃ X, X = qv[b].1.ops.getD i oz := ⟨_, rfl⟩
      obtain ⟨Y, hY⟩ : ∃ Y, Y = qv[b].1.ops.getD (i + 1) oz := ⟨_, rfl⟩
      simp only [okind, oa, ob, oc] at gx0 gx1 gx2 gx3 gy0 gy1 gy2 gy3
      rw [← hX] at gx0 gx1 gx2 gx3
      rw [← hY] at gy0 gy1 gy2 gy3
      obtain ⟨x0, x1, x2, x3⟩ := X
      obtain ⟨y0, y1, y2, y3⟩ := Y
      dsimp only at gx0 gx1 gx2 gx3 gy0 gy1 gy2 gy3
      have HX := Lib.hid hX
      have HY := Lib.hid hY
      have k1 : Below wr.heap.size wr w4.drew := k4.drew
      have cx0 : ∀ V, Below wr.heap.size wr V → V.cell? ⟨g, i * 4, none⟩ = some (.int .i64 x0) := fun V hV => cell_keep hV gx0
      have cx1 : ∀ V, Below wr.heap.size wr V → V.cell? ⟨g, i * 4 + 1, none⟩ = some (.int .i64 x1) := fun V hV => cell_keep hV gx1
      have cx2 : ∀ V, Below wr.heap.size wr V → V.cell? ⟨g, i * 4 + 2, none⟩ = some (.int .i64 x2) := fun V hV => cell_keep hV gx2
      have cx3 : ∀ V, Below wr.heap.size wr V → V.cell? ⟨g, i * 4 + 3, none⟩ = some (.int .i64 x3) := fun V hV => cell_keep hV gx3
      have cy0 : ∀ V, Below wr.heap.size wr V → V.cell? ⟨g, (i + 1) * 4, none⟩ = some (.int .i64 y0) := fun V hV => cell_keep hV gy0
      have cy1 : ∀ V, Below wr.heap.size wr V → V.cell? ⟨g, (i + 1) * 4 + 1, none⟩ = some (.int .i64 y1) := fun V hV => cell_keep hV gy1
      have cy2 : ∀ V, Below wr.heap.size wr V → V.cell? ⟨g, (i + 1) * 4 + 2, none⟩ = some (.int .i64 y2) := fun V hV => cell_keep hV gy2
      have cy3 : ∀ V, Below wr.heap.size wr V → V.cell? ⟨g, (i + 1) * 4 + 3, none⟩ = some (.int .i64 y3) := fun V hV => cell_keep hV gy3
      have hii : (0 : Int) ≤ (i : Int) := by omega
      have hij : (i : Int) < (ln : Int) := by omega
      have hi1i : (0 : Int) ≤ (i : Int) + 1 := by omega
      have hi1j : (i : Int) + 1 < (ln : Int) := by omega
      have hwi : IntKind.i64.wrap ((i : Int) + 1) = (i : Int) + 1 := by rw [IntKind.wrap_i64]; omega
      have q5 := fun P' => kLoose_cps x0 x1 x2 x3 y0 y1 y2 y3 w4.drew P'
      clear hrow gx0 gx1 gx2 gx3 gy0 gy1 gy2 gy3 hX hY
      go_wp2
      go_region_held3 (fun V => Below wr.heap.size wr V) (first | with_reducible exact k1 | with_reducible exact b5) (first | (go_at_call 17; refine q5 _ ?_; intro z w5 hz b5'; have b5 : Below wr.heap.size wr w5 := k1.trans (b5'.mono k1.size)))
      have HZ := Lib.hid hz
      have S5 := HS.out.keep b5
      clear q5 hz b5' HS cx0 cx1 cx2 cx3 cy0 cy1 cy2 cy3 k0 k1 k4
      cases z with
      | false =>
        clear HZ HX HY HLV HLNN b5
        go_wp2
        go_roundw
        case rel => exact ⟨k + 2, qv, by omega, by go_num, S5⟩
        case measure => simp [intOf]; omega
      | true =>
      have HL := Lib.hid (HZ.out.1 rfl)
      obtain ⟨W5, hW5⟩ : ∃ x, x = w5.alloc (.cells #[.int .i64 x0, .int .i64 x1, .int .i64 x2, .int .i64 x3] 36) := ⟨_, rfl⟩
      have b55 : Below w5.heap.size w5 W5 := by subst hW5; exact (Below.refl _ _).alloc (Nat.le_refl _) _
      have rO5 : Row W5 w5.heap.size 36 [.int .i64 x0, .int .i64 x1, .int .i64 x2, .int .i64 x3] := by subst hW5; exact heap_alloc_new w5 _
      have SW := S5.keep b55
      have hgo : qv[b].2.ownBlock = some g := by rw [HLV.out]; rfl
      have hgQ : g < Qb := SW.low _ (List.getElem_mem hbq) g hgo
      have hQ5 : Qb < w5.heap.size := S5.row.lt
      have hrow5 := S5.own.each _ (List.getElem_mem hbq)
      rw [HLV.out, HLNN.out] at hrow5
      obtain ⟨g1, e1', _, dx0, dx1, dx2, dx3, dfx⟩ := owns_ops_at hrow5 (j := i) (by omega)
      obtain ⟨g2, e2', _, dy0, dy1, dy2, dy3, dfy⟩ := owns_ops_at hrow5 (j := i + 1) hopl
      simp only [Option.some.injEq, Addr.mk.injEq, and_true] at e1' e2'
      subst e1'
      subst e2'
      have SF := SW.swap hbq hbl0 hgo hopl HX.out.symm HY.out.symm HL.out
      simp only [okind, oa, ob, oc] at dx0 dx1 dx2 dx3 dy0 dy1 dy2 dy3
      rw [← HX.out] at dx0 dx1 dx2 dx3
      rw [← HY.out] at dy0 dy1 dy2 dy3
      dsimp only at dx0 dx1 dx2 dx3 dy0 dy1 dy2 dy3
      have ax0 := cell_keep b55 dx0
      have ax1 := cell_keep b55 dx1
      have ax2 := cell_keep b55 dx2
      have ax3 := cell_keep b55 dx3
      have ay0 := cell_keep b55 dy0
      have ay1 := cell_keep b55 dy1
      have ay2 := cell_keep b55 dy2
      have ay3 := cell_keep b55 dy3
      have af : ∀ o, W5.frozen? ⟨g, o, none⟩ = false := fun o => (b55.frozen (p := ⟨g, o, none⟩) (by show g < w5.heap.size; omega)).trans (dfx o)
      have bo0 := rO5.cell (i := 0) rfl
      have bo1 := rO5.cell (i := 1) rfl
      have bo2 := rO5.cell (i := 2) rfl
      have bo3 := rO5.cell (i := 3) rfl
      have af0 := af (i * 4)
      have af1 := af (i * 4 + 1)
      have af2 := af (i * 4 + 2)
      have af3 := af (i * 4 + 3)
      have ag0 := af ((i + 1) * 4)
      have ag1 := af ((i + 1) * 4 + 1)
      have ag2 := af ((i + 1) * 4 + 2)
      have ag3 := af ((i + 1) * 4 + 3)
      have hne : g ≠ w5.heap.size := by omega
      have hne2 : w5.heap.size ≠ g := by omega
      have HSF := Lib.hid SF
      have HW : Hid (set4 (set4 W5 g (i * 4) y0 y1 y2 y3) g ((i + 1) * 4) x0 x1 x2 x3 = ((((((((W5.setCell ⟨g, i * 4, none⟩ (.int .i64 y0)).setCell ⟨g, i * 4 + 1, none⟩ (.int .i64 y1)).setCell ⟨g, i * 4 + 2, none⟩ (.int .i64 y2)).setCell ⟨g, i * 4 + 3, none⟩ (.int .i64 y3)).setCell ⟨g, (i + 1) * 4, none⟩ (.int .i64 x0)).setCell ⟨g, (i + 1) * 4 + 1, none⟩ (.int .i64 x1)).setCell ⟨g, (i + 1) * 4 + 2, none⟩ (.int .i64 x2)).setCell ⟨g, (i + 1) * 4 + 3, none⟩ (.int .i64 x3))) := rfl
      have HW5 := Lib.hid hW5
      rw [hW5] at HW
      clear HZ HL HX HY SF SW S5 hrow5 dy0 dy1 dy2 dy3 dfx dfy af rO5 b55 hgo hgQ hQ5
      rw [hW5] at ax0 ax1 ax2 ax3 ay0 ay1 ay2 ay3 af0 af1 af2 af3 ag0 ag1 ag2 ag3 bo0 bo1 bo2 bo3
      clear hW5
      go_wp2
      go_roundw
      case rel =>
        have hsf := HSF.out
        rw [HW5.out, HW.out] at hsf
        exact ⟨k + 2, _, by omega, by go_num, hsf⟩
      case measure => simp [intOf]; omega
    · have hlt' : ¬ ((k : Int) + 1 < (sn : Int)) := by omega
      have hwk : IntKind.i64.wrap ((k : Int) + 1) = (k : Int) + 1 := by rw [IntKind.wrap_i64]; omega
      have rP := HRP.out.keep S.below
      have rdp := HRD.out.keep S.below
      have rdq := OwnBlocks.rd S.own
      have bw : Below w.heap.size w wr := HBW.out.trans (S.below.mono HBW.out.size)
      have q6 := fun P' => identity_cps a0 a1 a2 0 bo n bc wr (by omega) hl2 (by omega) P'
      have p0 := rP.cell (i := 0) rfl
      have p1 := rP.cell (i := 1) rfl
      have p2 := rP.cell (i := 2) rfl
      have p3 := rP.cell (i := 3) rfl
      have p4 := rP.cell (i := 4) rfl
      have HT : Hid (ValAns (str (progText ⟨a0, a1, a2, 0, l0⟩)) (str (progText ⟨a0, a1, a2, 0, bdat qv⟩)) (str (hintText (idHint ⟨a0, a1, a2, 0, l0⟩))) 0 0) := S.ok.twin HG.out (fun b hb => by have := HSP.out b hb; omega)
      have HGH : Hid (goodHint (idHint ⟨a0, a1, a2, 0, l0⟩) = true) := idHint_good HG.out
      have HGQ := Lib.hid S.ok.good
      have HRPr := Lib.hid rP
      have HRQr := Lib.hid S.row
      have HRDP := Lib.hid rdp
      have HRDQ := Lib.hid rdq
      have HBWr := Lib.hid bw
      clear S rP rdp rdq bw
      go_wp2_with fail
      refine q6 _ ?_
      intro v hv w6 hd hoh hb6
      obtain ⟨ho', hc', rfl⟩ := owns_slice hoh.row
      have rh6 := OwnHint.rd hoh
      rw [hd.out] at rh6
      have hid : idPings n a1.toNat = idHint ⟨a0, a1, a2, 0, l0⟩ := by rw [idHint_pings]; show idPings n _ = idPings l0.length _; rw [HLN.out]
      rw [hid] at rh6
      have b06 := HBWr.out.trans (hb6.mono HBWr.out.size)
      obtain ⟨w7, hw7⟩ : ∃ x, x = w6.alloc (.cells #[.slice ho' hv.length hc'] 30) := ⟨_, rfl⟩
      have b67 : Below w6.heap.size w6 w7 := by subst hw7; exact (Below.refl _ _).alloc (Nat.le_refl _) _
      have br7 := hb6.trans (b67.mono hb6.size)
      have b07 := b06.trans (b67.mono b06.size)
      have q7 := fun P' => accepted_cps ⟨a0, a1, a2, 0, l0⟩ ⟨a0, a1, a2, 0, bdat qv⟩ _ (.slice bo n bc) (.slice (some ⟨qg, 0, none⟩) n qc) (.slice ho' hv.length hc') w7 (HRDP.out.keep br7) (HRDQ.out.keep br7) (rh6.keep b67) HG.out HGQ.out HGH.out (HTB.out.keep b07) HT.out P'
      have rP7 := HRPr.out.keep br7
      have rQ7 := HRQr.out.keep br7
      have rH7 : Row w7 w6.heap.size 30 [.slice ho' hv.length hc'] := by subst hw7; exact heap_alloc_new w6 _
      have u0 := rP7.cell (i := 0) rfl
      have v0 := rQ7.cell (i := 0) rfl
      have u1 := rP7.cell (i := 1) rfl
      have v1 := rQ7.cell (i := 1) rfl
      have u2 := rP7.cell (i := 2) rfl
      have v2 := rQ7.cell (i := 2) rfl
      have u3 := rP7.cell (i := 3) rfl
      have v3 := rQ7.cell (i := 3) rfl
      have u4 := rP7.cell (i := 4) rfl
      have v4 := rQ7.cell (i := 4) rfl
      have hh0 := rH7.cell (i := 0) rfl
      have HB07 := Lib.hid b07
      rw [hw7] at q7 HB07 hh0 u0 v0 u1 v1 u2 v2 u3 v3 u4 v4
      clear q6 hd hoh hb6 rh6 hid b06 hw7 b67 br7 b07 rP7 rQ7 rH7 p0 p1 p2 p3 p4 HRPr HRQr HRDP HRDQ HBWr HT HGH HGQ
      go_wp2_with fail
      refine q7 _ ?_
      intro w8 hb8
      have HF := Lib.hid (HP.out w8 (HB07.out.trans (hb8.mono HB07.out.size)))
      clear q7 hb8 HB07 HP hh0 u0 v0 u1 v1 u2 v2 u3 v3 u4 v4
      go_wp2
      exact HF.out

end Go.Proofs.YtblhmeidbjigaabGreatDoor
