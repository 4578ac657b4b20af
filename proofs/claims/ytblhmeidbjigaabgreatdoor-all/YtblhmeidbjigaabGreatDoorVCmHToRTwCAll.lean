/- Package compare: compareBlocks. -/
import Derived.Test.YtblhmeidbjigaabGreatDoorRows
import Derived.WalkKit
import Derived.WalkSpells
import Derived.WalkLawsBesides
import Derived.Laws.BytesArg
import Derived.Deep.QuietTactic
import Derived.BigQuiet
import Derived.Deep.RegionHeld3
import Derived.Lib.ItoaNum
import Derived.Lib.ItoaLen
import Derived.OpenShut
import Derived.Maps.AppendAt
import Derived.Shelf.Strconv.Itoa3
import Derived.Shelf.Lay
import Derived.Ground.NamesProg
import Derived.Lib.SmallJoins
import Derived.Lib.Hide
import Derived.StillTailTactics
import Derived.Test.YtblhmeidbjigaabGreatDoorVCmGJoinedAll

set_option linter.unusedSimpArgs false
set_option linter.unusedVariables false
namespace Go.Proofs.YtblhmeidbjigaabGreatDoor
open Go.RowKit

set_option maxRecDepth 100000 in
set_option maxHeartbeats 4000000 in
theorem vBlocks_cps (p q : ProgD) (po qo ho : Option Addr) (pc qc hc : Nat) (h : List PingD) (hgp : progGood p = true) (hgq : progGood q = true) (hps : p.slots = 0) (hs : suitsD p q h) (hgh : goodHint h = true) (w : World)
    (hrp : RdBlocks w (.slice po p.blocks.length pc) p.blocks) (hrq : RdBlocks w (.slice qo q.blocks.length qc) q.blocks) (hrh : RdHint w (.slice ho h.length hc) h) (ht : TabW w) (Post : Ending → World → Prop)
    (hno : ∀ b w', b < q.blocks.length → codeD p q h b ≠ 0 → (∀ c, c < b → codeD p q h c = 0) → Below w.heap.size w w' → Post (.returned (.tuple #[.int .i64 (codeD p q h b), .int .i64 b])) w')
    (hyes : ∀ w', (∀ c, c < q.blocks.length → codeD p q h c = 0) → Below w.heap.size w w' → Post (.returned (.tuple #[.int .i64 0, .int .i64 0])) w') :
    Calls Tryz.prog 62 #[.agg #[.int .i64 p.args, .int .i64 p.regs, .int .i64 p.data, .int .i64 p.slots, .slice po p.blocks.length pc, .int .i64 q.args, .int .i64 q.regs, .int .i64 q.data, .int .i64 q.slots, .slice qo q.blocks.length qc, .slice ho h.length hc]] w Post := by
  have HBLK : Hid (∀ b V P', b < q.blocks.length → Below w.heap.size w V → (∀ w', Below V.heap.size V w' → P' (.returned (.int .i64 (codeD p q h b))) w') → Calls Tryz.prog 102 #[.agg #[.int .i64 p.args, .int .i64 p.regs, .int .i64 p.data, .int .i64 p.slots, .slice po p.blocks.length pc, .int .i64 q.args, .int .i64 q.regs, .int .i64 q.data, .int .i64 q.slots, .slice qo q.blocks.length qc, .slice ho h.length hc], .int .i64 b] V P') := fun b V P' hb hV hP =>
    vBlock_cps p q po qo ho pc qc hc h b hgp hgq hps hs hgh hb V (hrp.keep hV) (hrq.keep hV) (hrh.keep hV) (ht.keep hV) P' hP
  have HNO := Lib.hid hno
  have HYES := Lib.hid hyes
  obtain ⟨pn, hpn⟩ : ∃ pn, pn = p.blocks.length := ⟨_, rfl⟩
  obtain ⟨qn, hqn⟩ : ∃ qn, qn = q.blocks.length := ⟨_, rfl⟩
  obtain ⟨hn, hhn⟩ : ∃ hn, hn = h.length := ⟨_, rfl⟩
  have hqs : qn ≤ 1000 := by have := progGood_len hgq; omega
  rw [← hpn, ← hqn, ← hhn]
  rw [← hpn, ← hqn, ← hhn] at HBLK
  have HQN := Lib.hid hqn
  have b0 : Below w.heap.size w (w.alloc (.cells #[.int .i64 p.args, .int .i64 p.regs, .int .i64 p.data, .int .i64 p.slots, .slice po pn pc, .int .i64 q.args, .int .i64 q.regs, .int .i64 q.data, .int .i64 q.slots, .slice qo qn qc, .slice ho hn hc] 120)) := (Below.refl _ _).alloc (Nat.le_refl _) _
  have r0 : Row (w.alloc (.cells #[.int .i64 p.args, .int .i64 p.regs, .int .i64 p.data, .int .i64 p.slots, .slice po pn pc, .int .i64 q.args, .int .i64 q.regs, .int .i64 q.data, .int .i64 q.slots, .slice qo qn qc, .slice ho hn hc] 120)) w.heap.size 120 [.int .i64 p.args, .int .i64 p.regs, .int .i64 p.data, .int .i64 p.slots, .slice po pn pc, .int .i64 q.args, .int .i64 q.regs, .int .i64 q.data, .int .i64 q.slots, .slice qo qn qc, .slice ho hn hc] := heap_alloc_new w _
  obtain ⟨W, hW⟩ : ∃ W, W = (w.alloc (.cells #[.int .i64 p.args, .int .i64 p.regs, .int .i64 p.data, .int .i64 p.slots, .slice po pn pc, .int .i64 q.args, .int .i64 q.regs, .int .i64 q.data, .int .i64 q.slots, .slice qo qn qc, .slice ho hn hc] 120)) := ⟨_, rfl⟩
  rw [← hW] at b0 r0
  have HWE := Lib.hid hW
  clear hno hyes hps hs hrp hrq hrh ht hpn hqn hhn hW
  obtain ⟨pr, hpr⟩ : ∃ pr, pr = p.regs := ⟨_, rfl⟩
  clear hpr pr
  go_enter Tryz.func62, Tryz.ntmps62
  go_wp2
  rw [← HWE.out]
  clear HWE
  go_loopw [4] (fun i wr => ∃ (k : Nat), k ≤ qn ∧ i = .int .i64 k ∧ Below W.heap.size W wr ∧ Hid (∀ c, c < k → codeD p q h c = 0))
    (fun i _ => qn - (intOf i).toNat)
  case atStart => exact ⟨0, Nat.zero_le _, rfl, Below.refl _ _, fun j hj => by omega⟩
  case round =>
    obtain ⟨k, hk, rfl, hbel, hall⟩ := hrel
    have hbw : Below w.heap.size w wr := b0.trans (hbel.mono b0.size)
    have r1 := r0.keep hbel
    have oc0 := r1.cell (i := 0) rfl
    have oc1 := r1.cell (i := 1) rfl
    have oc2 := r1.cell (i := 2) rfl
    have oc3 := r1.cell (i := 3) rfl
    have oc4 := r1.cell (i := 4) rfl
    have oc5 := r1.cell (i := 5) rfl
    have oc6 := r1.cell (i := 6) rfl
    have oc7 := r1.cell (i := 7) rfl
    have oc8 := r1.cell (i := 8) rfl
    have oc9 := r1.cell (i := 9) rfl
    have oc10 := r1.cell (i := 10) rfl
    by_cases hlt : k < qn
    · have q1 := fun P' => HBLK.out k wr P' hlt hbw
      have hki : (k : Int) < (qn : Int) := by omega
      have HBEL := Lib.hid hbel
      have HBW := Lib.hid hbw
      clear hbel hbw r1
      go_wp2_with fail
      refine q1 _ ?_
      intro w2 b2
      have b3 := HBEL.out.trans (b2.mono HBEL.out.size)
      have b4 := HBW.out.trans (b2.mono HBW.out.size)
      clear q1 b2 HBEL HBW oc0 oc1 oc2 oc3 oc4 oc5 oc6 oc7 oc8 oc9 oc10
      by_cases hz : codeD p q h k = 0
      · have hzq : (codeD p q h k == 0) = true := by rw [beq_iff_eq]; exact hz
        have hall2 : Hid (∀ c, c < k + 1 → codeD p q h c = 0) := fun j hj => by
          by_cases e : j = k
          · rw [e]; exact hz
          · exact hall.out j (by omega)
        have HZ := Lib.hid hz
        clear hall b4
        generalize codeD p q h k = cd at *
        go_wp2
        go_roundw
        case rel => exact ⟨k + 1, by omega, by go_num, b3, hall2⟩
        case measure => simp [intOf]; omega
      · have hzq : (codeD p q h k == 0) = false := by rw [beq_eq_false_iff_ne]; exact hz
        have HF := Lib.hid (HNO.out k w2 (by rw [← HQN.out]; exact hlt) hz hall.out b4)
        clear hall b3 b4 HNO HYES HBLK
        generalize codeD p q h k = cd at *
        go_wp2
        exact HF.out
    · obtain rfl : k = qn := by omega
      have HF := Lib.hid (HYES.out wr (fun c hc => hall.out c (by rw [HQN.out]; exact hc)) hbw)
      clear hall hbel hbw HNO HYES HBLK r1
      go_wp2
      exact HF.out

end Go.Proofs.YtblhmeidbjigaabGreatDoor

/- Validate, in package compare and in package twin. -/
set_option linter.unusedSimpArgs false
set_option linter.unusedVariables false
namespace Go.Proofs.YtblhmeidbjigaabGreatDoor
open Go.RowKit

theorem code_is_wrong {p q : ProgD} {h : List PingD} (hgp : progGood p = true) (hgq : progGood q = true) (hps : p.slots = 0) (hs : suitsD p q h) (hgh : goodHint h = true) {b : Nat} (hb : b < q.blocks.length) : codeD p q h b = wrongD p q h b := by
  obtain ⟨hpr, hpa, hpd, hpsl⟩ := good_shape hgp
  obtain ⟨hqr, hqa, hqd, hqsl⟩ := good_shape hgq
  have hbh : b < h.length := by rw [hs.1]; exact hb
  obtain ⟨hsl, hpl⟩ := hs.2 b hbh
  obtain ⟨hs0, hpos⟩ := goodHint_at hgh hbh
  have hsb : (hsrc h b).toNat < p.blocks.length := by omega
  obtain ⟨hp12, hpops⟩ := good_block hgp hsb
  obtain ⟨hq12, hqops⟩ := good_block hgq hb
  rw [hps] at hpops
  have F1 : ∀ k, k ≤ (srcOps p h b).length → ∀ i : Int, 0 ≤ i → i ≤ p.regs + 0 → (behindT p.regs 0 (plainNames p.regs 0) (srcOps p h b) k i).fine := fun k hk i h0 h1 => behindT_fine (by omega) (by omega) (plain_small (by omega)) hpops k hk i h0 h1
  have F2 : ∀ k, k ≤ (bops q.blocks b).length → ∀ i : Int, 0 ≤ i → i ≤ q.regs + q.slots → (behindT q.regs q.slots (namesOf (hpairs h b) (q.regs + q.slots).toNat) (bops q.blocks b) k i).fine := fun k hk i h0 h1 => behindT_fine (by omega) (by omega) (names_small (fun x hx => by have := (hpl x hx).1; omega) _) hqops k hk i h0 h1
  obtain ⟨m1, f1⟩ := marks_show (data := p.data) F1 hpops (by omega) (by omega) _ (Nat.le_refl _)
  obtain ⟨m2, f2⟩ := marks_show (data := q.data) F2 hqops (by omega) (by omega) _ (Nat.le_refl _)
  obtain ⟨⟨k1, r1, r1'⟩, _⟩ := good_end hgp hsb
  obtain ⟨⟨k2, r2, r2'⟩, _⟩ := good_end hgq hb
  refine code_wrong p q h b ⟨fun e => map_show_inj f1 f2 (by rw [← m1, ← m2]; exact e), fun e => by rw [m1, m2, e]⟩ k1 k2 (F1 _ (Nat.le_refl _) _ r1 (by have : (bfin p.blocks (hsrc h b).toNat).r < p.regs := r1'; omega)) (F2 _ (Nat.le_refl _) _ r2 (by have : (bfin q.blocks b).r < q.regs := r2'; omega))

set_option maxRecDepth 100000 in
set_option maxHeartbeats 4000000 in
theorem vVal_cps (s t g : ByteArray) (w : World) (hs : s.size ≤ maxLen) (ht : t.size ≤ maxLen) (hgz : g.size ≤ maxLen) (htab : TabW w) (Post : Ending → World → Prop)
    (hp : ∀ e n w', ValAns s t g e n → Below w.heap.size w w' → Post (.returned (.tuple #[.int .i64 e, .int .i64 n])) w') :
    Calls Tryz.prog 34 #[.string s, .string t, .string g] w Post := by
  have hc := cDecode_any s w hs
  have HP := Lib.hid hp
  clear hp
  go_enter Tryz.func34, Tryz.ntmps34
  go_wp2_with fail
  refine hc.mono ?_
  clear hc
  rintro e w1 ⟨hor, hb1⟩
  rcases hor with ⟨p, v, bv, rfl, ho, hd, hgp, htp⟩ | ⟨hn, rfl⟩
  case inr =>
    have HF := Lib.hid (HP.out 6 0 (w1.alloc (.cells #[.int .i64 0, .int .i64 0, .int .i64 0, .int .i64 0, .slice none 0 0] 25)) (.inl ⟨rfl, rfl, fun p hg he => absurd he (hn p hg)⟩) (hb1.alloc hb1.size _))
    clear hb1 hn HP
    go_wp2
    exact HF.out
  obtain ⟨po, pc, rfl⟩ := owns_slice ho.row
  have hrp0 := ho.rd
  rw [hd] at hrp0
  obtain ⟨pn, hpn⟩ : ∃ pn, pn = bv.length := ⟨_, rfl⟩
  have hpl : pn = p.blocks.length := by rw [hpn, ← hd, bdat_length]
  rw [← hpn] at hrp0 ⊢
  unfold progV
  have bp : Below w.heap.size w (w1.alloc (.cells #[.int .i64 p.args, .int .i64 p.regs, .int .i64 p.data, .int .i64 p.slots, .slice po pn pc] 25)) := hb1.alloc hb1.size _
  have bp1 : Below w1.heap.size w1 (w1.alloc (.cells #[.int .i64 p.args, .int .i64 p.regs, .int .i64 p.data, .int .i64 p.slots, .slice po pn pc] 25)) := (Below.refl _ _).alloc (Nat.le_refl _) _
  have rp1 : Row (w1.alloc (.cells #[.int .i64 p.args, .int .i64 p.regs, .int .i64 p.data, .int .i64 p.slots, .slice po pn pc] 25)) w1.heap.size 25 [.int .i64 p.args, .int .i64 p.regs, .int .i64 p.data, .int .i64 p.slots, .slice po pn pc] := heap_alloc_new w1 _
  have hrp1 := hrp0.keep bp1
  have HPL := Lib.hid hpl
  have HONE : Hid (∀ p', progGood p' = true → str (progText p') = s → p' = p) := fun p' hg he => prog_one hg hgp (he.trans htp.symm)
  have HTP := Lib.hid htp
  clear ho hd hrp0 hb1 bp1 hpn hpl htp
  by_cases hps : p.slots = 0
  case neg =>
    have HF := Lib.hid (HP.out 6 0 (w1.alloc (.cells #[.int .i64 p.args, .int .i64 p.regs, .int .i64 p.data, .int .i64 p.slots, .slice po pn pc] 25)) (.inl ⟨rfl, rfl, fun p' hg he => by rw [HONE.out p' hg he]; exact hps⟩) bp)
    have hq : (p.slots == 0) = false := by rw [beq_eq_false_iff_ne]; exact hps
    clear bp rp1 hrp1 HP
    go_wp2
    exact HF.out
  have hq0 : (p.slots == 0) = true := by rw [beq_iff_eq]; exact hps
  have HPS := Lib.hid hps
  have hc2 := cDecode_any t (w1.alloc (.cells #[.int .i64 p.args, .int .i64 p.regs, .int .i64 p.data, .int .i64 p.slots, .slice po pn pc] 25)) ht
  have HB := Lib.hid bp
  have HRP := Lib.hid hrp1
  have HRow := Lib.hid rp1
  clear hps bp hrp1 rp1
  go_wp2_with fail
  refine hc2.mono ?_
  clear hc2
  rintro e w2 ⟨hor2, hb2⟩
  have b2 := HB.out.trans (hb2.mono HB.out.size)
  have rp2 := HRow.out.keep hb2
  have hrp2 := HRP.out.keep hb2
  clear HB HRP HRow hq0
  rcases hor2 with ⟨q, v2, bv2, rfl, ho2, hd2, hgq, htq⟩ | ⟨hn2, rfl⟩
  case inr =>
    have HF := Lib.hid (HP.out 7 0 (w2.alloc (.cells #[.int .i64 0, .int .i64 0, .int .i64 0, .int .i64 0, .slice none 0 0] 25)) (.inr ⟨p, hgp, HTP.out, HPS.out, .inl ⟨rfl, rfl, hn2⟩⟩) (b2.alloc b2.size _))
    clear b2 hn2 HP rp2 hrp2 hb2
    go_wp2
    exact HF.out
  obtain ⟨qo, qc, rfl⟩ := owns_slice ho2.row
  have hrq0 := ho2.rd
  rw [hd2] at hrq0
  obtain ⟨qn, hqn⟩ : ∃ qn, qn = bv2.length := ⟨_, rfl⟩
  have hql : qn = q.blocks.length := by rw [hqn, ← hd2, bdat_length]
  rw [← hqn] at hrq0 ⊢
  unfold progV
  have bq1 : Below w2.heap.size w2 (w2.alloc (.cells #[.int .i64 q.args, .int .i64 q.regs, .int .i64 q.data, .int .i64 q.slots, .slice qo qn qc] 25)) := (Below.refl _ _).alloc (Nat.le_refl _) _
  have b3 : Below w.heap.size w (w2.alloc (.cells #[.int .i64 q.args, .int .i64 q.regs, .int .i64 q.data, .int .i64 q.slots, .slice qo qn qc] 25)) := b2.alloc b2.size _
  have rq3 : Row (w2.alloc (.cells #[.int .i64 q.args, .int .i64 q.regs, .int .i64 q.data, .int .i64 q.slots, .slice qo qn qc] 25)) w2.heap.size 25 [.int .i64 q.args, .int .i64 q.regs, .int .i64 q.data, .int .i64 q.slots, .slice qo qn qc] := heap_alloc_new w2 _
  have rp3 := rp2.keep bq1
  have hrp3 := hrp2.keep bq1
  have hrq3 := hrq0.keep bq1
  have HQL := Lib.hid hql
  have HTQ := Lib.hid htq
  have pa := fun o => (rp2.alloc o).cell (i := 0) rfl
  have pd := fun o => (rp2.alloc o).cell (i := 2) rfl
  clear ho2 hd2 hrq0 hb2 hqn hql htq b2 hrp2 bq1
  by_cases hsh : p.args = q.args ∧ p.data = q.data
  case neg =>
    have HF := Lib.hid (HP.out 8 0 (w2.alloc (.cells #[.int .i64 q.args, .int .i64 q.regs, .int .i64 q.data, .int .i64 q.slots, .slice qo qn qc] 25)) (.inr ⟨p, hgp, HTP.out, HPS.out, .inr ⟨q, hgq, HTQ.out, .inl ⟨rfl, rfl, hsh⟩⟩⟩) b3)
    clear b3 rq3 rp3 hrp3 hrq3 HP rp2
    by_cases ha : p.args = q.args
    · have e1 : (p.args == q.args) = true := by rw [beq_iff_eq]; exact ha
      have hdd : ¬ p.data = q.data := fun e => hsh ⟨ha, e⟩
      have e2 : (p.data == q.data) = false := by rw [beq_eq_false_iff_ne]; exact hdd
      have HA := Lib.hid ha
      clear ha hsh
      go_wp2
      exact HF.out
    · have e1 : (p.args == q.args) = false := by rw [beq_eq_false_iff_ne]; exact ha
      clear hsh
      go_wp2
      exact HF.out
  have HSH := Lib.hid hsh
  rw [hsh.1, hsh.2] at rp2 rp3
  clear pa pd
  have pa := fun o => (rp2.alloc o).cell (i := 0) rfl
  have pd := fun o => (rp2.alloc o).cell (i := 2) rfl
  have hc3 := cDecodeHint_any g (w2.alloc (.cells #[.int .i64 q.args, .int .i64 q.regs, .int .i64 q.data, .int .i64 q.slots, .slice qo qn qc] 25)) hgz
  have HB := Lib.hid b3
  have HRP := Lib.hid hrp3
  have HRQ := Lib.hid hrq3
  have HrP := Lib.hid rp3
  have HrQ := Lib.hid rq3
  clear hsh b3 hrp3 hrq3 rp3 rq3 rp2
  go_wp2_with fail
  refine hc3.mono ?_
  clear hc3
  rintro e w3 ⟨hor3, hb3⟩
  have b3 := HB.out.trans (hb3.mono HB.out.size)
  have rp3 := HrP.out.keep hb3
  have rq3 := HrQ.out.keep hb3
  have hrp3 := HRP.out.keep hb3
  have hrq3 := HRQ.out.keep hb3
  clear HB HRP HRQ HrP HrQ pa pd hb3
  have pp0 := fun o => (rp3.alloc o).cell (i := 0) rfl
  have qq0 := fun o => (rq3.alloc o).cell (i := 0) rfl
  have pp1 := fun o => (rp3.alloc o).cell (i := 1) rfl
  have qq1 := fun o => (rq3.alloc o).cell (i := 1) rfl
  have pp2 := fun o => (rp3.alloc o).cell (i := 2) rfl
  have qq2 := fun o => (rq3.alloc o).cell (i := 2) rfl
  have pp3 := fun o => (rp3.alloc o).cell (i := 3) rfl
  have qq3 := fun o => (rq3.alloc o).cell (i := 3) rfl
  have pp4 := fun o => (rp3.alloc o).cell (i := 4) rfl
  have qq4 := fun o => (rq3.alloc o).cell (i := 4) rfl
  rcases hor3 with ⟨v3, hv, rfl, ho3, hgh, hth⟩ | ⟨hn3, rfl⟩
  case inr =>
    have bC : Below w.heap.size w ((w3.alloc (.cells #[.slice none 0 0] 30)).alloc (.cells #[.int .i64 q.args, .int .i64 p.regs, .int .i64 q.data, .int .i64 p.slots, .slice po pn pc, .int .i64 q.args, .int .i64 q.regs, .int .i64 q.data, .int .i64 q.slots, .slice qo qn qc, .slice none 0 0] 120)) := (b3.alloc b3.size _).alloc (by have := b3.size; simp; omega) _
    have HF := Lib.hid (HP.out 2 0 _ (.inr ⟨p, hgp, HTP.out, HPS.out, .inr ⟨q, hgq, HTQ.out, .inr ⟨HSH.out, .inl ⟨rfl, rfl, fun h hg he => absurd he (hn3 h hg)⟩⟩⟩⟩) bC)
    clear b3 hn3 HP rp3 rq3 hrp3 hrq3 bC
    go_wp2
    exact HF.out
  obtain ⟨ho, hc, rfl⟩ := owns_slice ho3.row
  have hrh0 := ho3.rd
  obtain ⟨hn, hhn⟩ : ∃ hn, hn = hv.length := ⟨_, rfl⟩
  rw [← hhn] at hrh0 ⊢
  obtain ⟨h, hh⟩ : ∃ h, h = hdat hv := ⟨_, rfl⟩
  have hhl : hn = h.length := by rw [hhn, hh]; simp [hdat]
  rw [← hh] at hrh0 hgh hth
  have HHL := Lib.hid hhl
  have HTH := Lib.hid hth
  have HONEH : Hid (∀ h', goodHint h' = true → str (hintText h') = g → h' = h) := fun h' hg he => hint_one hg hgh (he.trans hth.symm)
  have bC0 : Below w3.heap.size w3 ((w3.alloc (.cells #[.slice ho hn hc] 30)).alloc (.cells #[.int .i64 q.args, .int .i64 p.regs, .int .i64 q.data, .int .i64 p.slots, .slice po pn pc, .int .i64 q.args, .int .i64 q.regs, .int .i64 q.data, .int .i64 q.slots, .slice qo qn qc, .slice ho hn hc] 120)) := ((Below.refl _ _).alloc (Nat.le_refl _) _).alloc (by simp) _
  have bC : Below w.heap.size w ((w3.alloc (.cells #[.slice ho hn hc] 30)).alloc (.cells #[.int .i64 q.args, .int .i64 p.regs, .int .i64 q.data, .int .i64 p.slots, .slice po pn pc, .int .i64 q.args, .int .i64 q.regs, .int .i64 q.data, .int .i64 q.slots, .slice qo qn qc, .slice ho hn hc] 120)) := b3.trans (bC0.mono b3.size)
  have rc : Row ((w3.alloc (.cells #[.slice ho hn hc] 30)).alloc (.cells #[.int .i64 q.args, .int .i64 p.regs, .int .i64 q.data, .int .i64 p.slots, .slice po pn pc, .int .i64 q.args, .int .i64 q.regs, .int .i64 q.data, .int .i64 q.slots, .slice qo qn qc, .slice ho hn hc] 120)) (w3.heap.size + 1) 120 [.int .i64 q.args, .int .i64 p.regs, .int .i64 q.data, .int .i64 p.slots, .slice po pn pc, .int .i64 q.args, .int .i64 q.regs, .int .i64 q.data, .int .i64 q.slots, .slice qo qn qc, .slice ho hn hc] := heap_alloc2_new w3 _ _
  have hrp4 := hrp3.keep bC0
  have hrq4 := hrq3.keep bC0
  have hrh4 := hrh0.keep bC0
  obtain ⟨hqr, hqa, hqd, hqsl⟩ := good_shape hgq
  have hadd : IntKind.i64.wrap (q.regs + q.slots) = q.regs + q.slots := by rw [IntKind.wrap_i64]; omega
  have qF := fun P' => vFit_cps q.args p.regs q.data p.slots q.args q.regs q.data q.slots po qo ho pn pc qn qc hn hc h ((w3.alloc (.cells #[.slice ho hn hc] 30)).alloc (.cells #[.int .i64 q.args, .int .i64 p.regs, .int .i64 q.data, .int .i64 p.slots, .slice po pn pc, .int .i64 q.args, .int .i64 q.regs, .int .i64 q.data, .int .i64 q.slots, .slice qo qn qc, .slice ho hn hc] 120)) hrh4 hadd P'
  have HB := Lib.hid bC
  have HRC := Lib.hid rc
  have HRP := Lib.hid hrp4
  have HRQ := Lib.hid hrq4
  have HRH := Lib.hid hrh4
  clear ho3 hhn hh hhl hth hrh0 b3 bC0 bC rc hrp3 hrq3 hrp4 hrq4 hrh4 rp3 rq3
  go_wp2_with fail
  refine qF _ ?_
  intro z w4 hz b4
  have HZ := Lib.hid hz
  have b5 := HB.out.trans (b4.mono HB.out.size)
  have rc4 := HRC.out.keep b4
  have hrp5 := HRP.out.keep b4
  have hrq5 := HRQ.out.keep b4
  have hrh5 := HRH.out.keep b4
  clear qF hz HB HRC HRP HRQ HRH b4 pp0 pp1 pp2 pp3 pp4 qq0 qq1 qq2 qq3 qq4
  cases z with
  | false =>
    have HF := Lib.hid (HP.out 2 0 w4 (.inr ⟨p, hgp, HTP.out, HPS.out, .inr ⟨q, hgq, HTQ.out, .inr ⟨HSH.out, .inl ⟨rfl, rfl, fun h' hg he hsu => by
      rw [HONEH.out h' hg he] at hsu
      have := HZ.out.2 ⟨by rw [HQL.out]; exact hsu.1, fun b hb => by rw [HPL.out]; exact hsu.2 b hb⟩
      cases this⟩⟩⟩⟩) b5)
    clear b5 rc4 hrp5 hrq5 hrh5 HP
    go_wp2
    exact HF.out
  | true =>
  have HSU : Hid (suitsD p q h) := by
    have h1 := HZ.out.1 rfl
    rw [HQL.out, HPL.out] at h1
    exact h1
  have hh0 : 0 < h.length := by
    simp only [goodHint, Bool.and_eq_true, decide_eq_true_eq] at hgh
    omega
  have qS := fun P' => vStart_cps q.args p.regs q.data p.slots q.args q.regs q.data q.slots po qo ho pn pc qn qc hn hc h hh0 w4 hrh5 P'
  have oc0 := rc4.cell (i := 0) rfl
  have oc1 := rc4.cell (i := 1) rfl
  have oc2 := rc4.cell (i := 2) rfl
  have oc3 := rc4.cell (i := 3) rfl
  have oc4 := rc4.cell (i := 4) rfl
  have oc5 := rc4.cell (i := 5) rfl
  have oc6 := rc4.cell (i := 6) rfl
  have oc7 := rc4.cell (i := 7) rfl
  have oc8 := rc4.cell (i := 8) rfl
  have oc9 := rc4.cell (i := 9) rfl
  have oc10 := rc4.cell (i := 10) rfl
  have HB := Lib.hid b5
  have HRC := Lib.hid rc4
  have HRP := Lib.hid hrp5
  have HRQ := Lib.hid hrq5
  have HRH := Lib.hid hrh5
  clear b5 rc4 hrp5 hrq5 hrh5 HZ
  go_wp2_with fail
  refine qS _ ?_
  intro z w5 hz b6
  have HZ := Lib.hid hz
  have b7 := HB.out.trans (b6.mono HB.out.size)
  have rc5 := HRC.out.keep b6
  have hrp6 := HRP.out.keep b6
  have hrq6 := HRQ.out.keep b6
  have hrh6 := HRH.out.keep b6
  clear qS hz HB HRC HRP HRQ HRH b6 oc0 oc1 oc2 oc3 oc4 oc5 oc6 oc7 oc8 oc9 oc10
  have HJ : Hid (∀ e n w', JudgedD p q h e n → Below w.heap.size w w' → Post (.returned (.tuple #[.int .i64 e, .int .i64 n])) w') := fun e n w' hj hb' =>
    HP.out e n w' (.inr ⟨p, hgp, HTP.out, HPS.out, .inr ⟨q, hgq, HTQ.out, .inr ⟨HSH.out, .inr ⟨h, hgh, HTH.out, HSU.out, hj⟩⟩⟩⟩) hb'
  have HST : Hid (startsD q h ↔ hsrc h 0 = 0 ∧ ∀ x ∈ hpairs h 0, x.place < q.regs ∧ (x.reg = x.place ∨ (q.args ≤ x.reg ∧ q.args ≤ x.place))) := Iff.rfl
  cases z with
  | false =>
    have HF := Lib.hid (HJ.out 9 0 w5 (.inl ⟨rfl, rfl, fun hq => by have := HZ.out.2 (HST.out.1 hq); cases this⟩) b7)
    clear b7 rc5 hrp6 hrq6 hrh6 HP HJ
    go_wp2
    exact HF.out
  | true =>
  have HSTT : Hid (startsD q h) := HST.out.2 (HZ.out.1 rfl)
  have qB := fun P' => vBlocks_cps p q po qo ho pc qc hc h hgp hgq HPS.out HSU.out hgh w5 (by rw [← HPL.out]; exact hrp6) (by rw [← HQL.out]; exact hrq6) (by rw [← HHL.out]; exact hrh6) (htab.keep b7) P'
  rw [← HPL.out, ← HQL.out, ← HHL.out, HSH.out.1, HSH.out.2] at qB
  have oc0 := rc5.cell (i := 0) rfl
  have oc1 := rc5.cell (i := 1) rfl
  have oc2 := rc5.cell (i := 2) rfl
  have oc3 := rc5.cell (i := 3) rfl
  have oc4 := rc5.cell (i := 4) rfl
  have oc5 := rc5.cell (i := 5) rfl
  have oc6 := rc5.cell (i := 6) rfl
  have oc7 := rc5.cell (i := 7) rfl
  have oc8 := rc5.cell (i := 8) rfl
  have oc9 := rc5.cell (i := 9) rfl
  have oc10 := rc5.cell (i := 10) rfl
  have HB := Lib.hid b7
  clear b7 rc5 hrp6 hrq6 hrh6 HZ
  go_wp2_with fail
  refine qB _ ?_ ?_
  · intro b w6 hb hne hall b8
    have hW := fun c (hc : c < q.blocks.length) => code_is_wrong hgp hgq HPS.out HSU.out hgh hc
    rw [← HQL.out] at hW
    have HF := Lib.hid (HJ.out (codeD p q h b) b w6 (.inr ⟨HSTT.out, .inl ⟨b, by rw [← HQL.out]; exact hb, rfl, hW b hb, hne, fun c hc => by rw [← hW c (by omega)]; exact hall c hc⟩⟩) (HB.out.trans (b8.mono HB.out.size)))
    clear qB hW hne hall b8 HJ HP HB
    generalize codeD p q h b = cd at *
    go_wp2
    exact HF.out
  · intro w6 hall b8
    have hW := fun c (hc : c < q.blocks.length) => code_is_wrong hgp hgq HPS.out HSU.out hgh hc
    rw [← HQL.out] at hW
    have HF := Lib.hid (HJ.out 0 0 w6 (.inr ⟨HSTT.out, .inr ⟨rfl, rfl, fun c hc => by rw [← HQL.out] at hc; rw [← hW c hc]; exact hall c hc⟩⟩) (HB.out.trans (b8.mono HB.out.size)))
    clear qB hW hall b8 HJ HP HB
    go_wp2
    exact HF.out

set_option maxRecDepth 100000 in
set_option maxHeartbeats 1000000 in
theorem tVal_cps (s t g : ByteArray) (w : World) (hs : s.size ≤ maxLen) (ht : t.size ≤ maxLen) (hgz : g.size ≤ maxLen) (htab : TabW w) (Post : Ending → World → Prop)
    (hp : ∀ e n w', ValAns s t g e n → Below w.heap.size w w' → Post (.returned (.tuple #[.int .i64 e, .int .i64 n])) w') :
    Calls Tryz.prog 22 #[.string s, .string t, .string g] w Post := by
  have q := fun P' => vVal_cps s t g w hs ht hgz htab P'
  go_enter Tryz.func22, Tryz.ntmps22
  go_wp2_with fail
  refine q _ ?_
  intro e n w1 ha hb
  have HF := Lib.hid (hp e n w1 ha hb)
  clear q ha hb hp
  go_wp2
  exact HF.out

end Go.Proofs.YtblhmeidbjigaabGreatDoor

/- P12 (4) as the reference goes about it; pure. -/
set_option linter.unusedSimpArgs false
set_option linter.unusedVariables false
noncomputable section
namespace Go.Proofs.YtblhmeidbjigaabGreatDoor
open Go.RowKit Classical

/-- A block's end as it counts. -/
def endT (p : ProgD) (names : List Int) (b : Nat) : EndD := effT (bfin p.blocks b) (finT p names b (bfin p.blocks b).r)

/-- What onward tells. -/
def onD (f g : Int → TD) (h : List PingD) (e e' : EndD) : Int :=
  if hsrc h e'.x.toNat ≠ e.x then 13
  else if e.kind = 2 ∧ hsrc h e'.y.toNat ≠ e.y then 13
  else if ¬ (∀ x ∈ hpairs h e'.x.toNat, f x.reg = g x.place) then 14
  else if e.kind = 2 ∧ ¬ (∀ x ∈ hpairs h e'.y.toNat, f x.reg = g x.place) then 14
  else 0

/-- What wrong tells. -/
def refD (p q : ProgD) (np nq : List Int) (a b : Nat) (h : List PingD) : Int :=
  if bigT p.regs p.slots np (bops p.blocks a) = true ∨ bigT q.regs q.slots nq (bops q.blocks b) = true then 5
  else if mksT p np a ≠ mksT q nq b then 10
  else if finT p np a (p.regs + p.slots) ≠ finT q nq b (q.regs + q.slots) then 11
  else if (endT p np a).kind ≠ (endT q nq b).kind then 12
  else if ((endT p np a).kind = 2 ∨ (endT p np a).kind = 3) ∧ finT p np a (endT p np a).r ≠ finT q nq b (endT q nq b).r then 12
  else if (endT p np a).kind = 3 then 0
  else onD (finT p np a) (finT q nq b) h (endT p np a) (endT q nq b)

theorem ref_wrong {p q : ProgD} {h : List PingD} {b : Nat} (h0 : p.slots = 0)
    (hm : mksT p (plainNames p.regs p.slots) (hsrc h b).toNat = mksT q (namesOf (hpairs h b) (q.regs + q.slots).toNat) b ↔ marksD p.regs 0 p.data (plainNames p.regs 0) (srcOps p h b) (srcOps p h b).length = marksD q.regs q.slots q.data (namesOf (hpairs h b) (q.regs + q.slots).toNat) (bops q.blocks b) (bops q.blocks b).length) :
    refD p q (plainNames p.regs p.slots) (namesOf (hpairs h b) (q.regs + q.slots).toNat) (hsrc h b).toNat b h = wrongD p q h b := by
  have e1 : ∀ i, finT p (plainNames p.regs p.slots) (hsrc h b).toNat i = srcT p h b i := fun i => by unfold finT srcT srcOps; rw [h0]
  have e2 : ∀ i, finT q (namesOf (hpairs h b) (q.regs + q.slots).toNat) b i = tgtT q h b i := fun i => rfl
  have f1 : finT p (plainNames p.regs p.slots) (hsrc h b).toNat = srcT p h b := funext e1
  have f2 : finT q (namesOf (hpairs h b) (q.regs + q.slots).toNat) b = tgtT q h b := rfl
  have e3 : endT p (plainNames p.regs p.slots) (hsrc h b).toNat = srcEnd p h b := by unfold endT srcEnd; rw [e1]
  have e4 : endT q (namesOf (hpairs h b) (q.regs + q.slots).toNat) b = tgtEnd q h b := rfl
  have e5 : bigT p.regs p.slots (plainNames p.regs p.slots) (bops p.blocks (hsrc h b).toNat) = bigT p.regs 0 (plainNames p.regs 0) (srcOps p h b) := by unfold srcOps; rw [h0]
  unfold refD wrongD onD pairsOkD
  rw [e3, e4, e5, f1, f2]
  have e6 : p.regs + p.slots = p.regs := by omega
  rw [e6]
  by_cases c1 : bigT p.regs 0 (plainNames p.regs 0) (srcOps p h b) = true ∨ bigT q.regs q.slots (namesOf (hpairs h b) (q.regs + q.slots).toNat) (bops q.blocks b) = true
  · rw [if_pos c1, if_pos c1]
  rw [if_neg c1, if_neg c1]
  by_cases c2 : marksD p.regs 0 p.data (plainNames p.regs 0) (srcOps p h b) (srcOps p h b).length = marksD q.regs q.slots q.data (namesOf (hpairs h b) (q.regs + q.slots).toNat) (bops q.blocks b) (bops q.blocks b).length
  · have k1 : ¬ (mksT p (plainNames p.regs p.slots) (hsrc h b).toNat ≠ mksT q (namesOf (hpairs h b) (q.regs + q.slots).toNat) b) := fun e => e (hm.2 c2)
    have k2 : ¬ (marksD p.regs 0 p.data (plainNames p.regs 0) (srcOps p h b) (srcOps p h b).length ≠ marksD q.regs q.slots q.data (namesOf (hpairs h b) (q.regs + q.slots).toNat) (bops q.blocks b) (bops q.blocks b).length) := fun e => e c2
    rw [if_neg k1, if_neg k2]
    first | rfl | (congr) | (split <;> simp_all)
  · rw [if_pos (fun e => c2 (hm.1 e)), if_pos c2]

theorem marks_iff {p q : ProgD} {h : List PingD} (hgp : progGood p = true) (hgq : progGood q = true) (hps : p.slots = 0) (hs : suitsD p q h) (hgh : goodHint h = true) {b : Nat} (hb : b < q.blocks.length) :
    mksT p (plainNames p.regs p.slots) (hsrc h b).toNat = mksT q (namesOf (hpairs h b) (q.regs + q.slots).toNat) b ↔ marksD p.regs 0 p.data (plainNames p.regs 0) (srcOps p h b) (srcOps p h b).length = marksD q.regs q.slots q.data (namesOf (hpairs h b) (q.regs + q.slots).toNat) (bops q.blocks b) (bops q.blocks b).length := by
  obtain ⟨hpr, hpa, hpd, hpsl⟩ := good_shape hgp
  obtain ⟨hqr, hqa, hqd, hqsl⟩ := good_shape hgq
  have hbh : b < h.length := by rw [hs.1]; exact hb
  obtain ⟨hsl, hpl⟩ := hs.2 b hbh
  obtain ⟨hs0, hpos⟩ := goodHint_at hgh hbh
  have hsb : (hsrc h b).toNat < p.blocks.length := by omega
  obtain ⟨hp12, hpops⟩ := good_block hgp hsb
  obtain ⟨hq12, hqops⟩ := good_block hgq hb
  rw [hps] at hpops
  have F1 : ∀ k, k ≤ (srcOps p h b).length → ∀ i : Int, 0 ≤ i → i ≤ p.regs + 0 → (behindT p.regs 0 (plainNames p.regs 0) (srcOps p h b) k i).fine := fun k hk i h0 h1 => behindT_fine (by omega) (by omega) (plain_small (by omega)) hpops k hk i h0 h1
  have F2 : ∀ k, k ≤ (bops q.blocks b).length → ∀ i : Int, 0 ≤ i → i ≤ q.regs + q.slots → (behindT q.regs q.slots (namesOf (hpairs h b) (q.regs + q.slots).toNat) (bops q.blocks b) k i).fine := fun k hk i h0 h1 => behindT_fine (by omega) (by omega) (names_small (fun x hx => by have := (hpl x hx).1; omega) _) hqops k hk i h0 h1
  obtain ⟨m1, f1⟩ := marks_show (data := p.data) F1 hpops (by omega) (by omega) _ (Nat.le_refl _)
  obtain ⟨m2, f2⟩ := marks_show (data := q.data) F2 hqops (by omega) (by omega) _ (Nat.le_refl _)
  have g1 : mksT p (plainNames p.regs p.slots) (hsrc h b).toNat = (marksD p.regs 0 p.data (plainNames p.regs 0) (srcOps p h b) (srcOps p h b).length).map showM := by
    rw [← m1]; unfold mksT srcOps; rw [hps]
  have g2 : mksT q (namesOf (hpairs h b) (q.regs + q.slots).toNat) b = (marksD q.regs q.slots q.data (namesOf (hpairs h b) (q.regs + q.slots).toNat) (bops q.blocks b) (bops q.blocks b).length).map showM := m2
  rw [g1, g2]
  exact ⟨fun e => map_show_inj f1 f2 e, fun e => by rw [e]⟩

end Go.Proofs.YtblhmeidbjigaabGreatDoor

/- The reference's twins: Last, onward. -/
set_option linter.unusedSimpArgs false
set_option linter.unusedVariables false
namespace Go.Proofs.YtblhmeidbjigaabGreatDoor
open Go.RowKit

/-- Four cells of a block are set. -/
def setE (w : World) (g : Nat) (a b c d : Value) : World :=
  (((w.setCell ⟨g, 0, none⟩ a).setCell ⟨g, 1, none⟩ b).setCell ⟨g, 2, none⟩ c).setCell ⟨g, 3, none⟩ d

theorem setE_below {w0 w : World} (h : Below w0.heap.size w0 w) {g : Nat} (hg : w0.heap.size ≤ g) (a b c d : Value) : Below w0.heap.size w0 (setE w g a b c d) :=
  below_set (below_set (below_set (below_set h hg _) hg _) hg _) hg _

theorem TreeAt.set {w : World} {t : TD} {g : Nat} (h : TreeAt w t g) {R i : Nat} {xs : List Value} (hR : Row w R 40 xs) (u : Value) : TreeAt (w.setCell ⟨R, i, none⟩ u) t g := by
  have key : ∀ (g : Nat) (ys : List Value), Row w g 200 ys → Row (w.setCell ⟨R, i, none⟩ u) g 200 ys := fun g ys hr => hr.unset (a := ⟨R, i, none⟩) (fun e => by
    have e' : g = R := e
    subst e'
    have := hr.symm.trans hR
    simp at this) u
  induction t generalizing g with
  | leaf k n => exact key g _ h
  | two k a b iha ihb => obtain ⟨ga, gb, h1, h2, h3⟩ := h; exact ⟨ga, gb, key g _ h1, iha h2, ihb h3⟩
  | three k a b c iha ihb ihc => obtain ⟨ga, gb, gc, h1, h2, h3, h4⟩ := h; exact ⟨ga, gb, gc, key g _ h1, iha h2, ihb h3, ihc h4⟩

theorem TreeAt.setE {w : World} {t : TD} {g : Nat} (h : TreeAt w t g) {R : Nat} {x0 x1 x2 x3 : Value} (hR : Row w R 40 [x0, x1, x2, x3]) (a b c d : Value) : TreeAt (setE w R a b c d) t g :=
  (((h.set (i := 0) hR a).set (i := 1) (hR.set 0 a) b).set (i := 2) ((hR.set 0 a).set 1 b) c).set (i := 3) (((hR.set 0 a).set 1 b).set 2 c) d

theorem eff_one {e : EndD} {t : TD} (h : e.kind = 1) : effT e t = e := by unfold effT; rw [if_neg (by omega)]
theorem eff_three {e : EndD} {t : TD} (h : e.kind = 3) : effT e t = e := by unfold effT; rw [if_neg (by omega)]
theorem eff_none {e : EndD} {t : TD} (h : e.kind = 2) (ht : t.isNum = none) : effT e t = e := by unfold effT; rw [if_pos h, ht]
theorem eff_x {e : EndD} {t : TD} {n : Int} (h : e.kind = 2) (ht : t.isNum = some n) (hn : n ≠ 0) : effT e t = ⟨1, 0, e.x, 0⟩ := by unfold effT; rw [if_pos h, ht]; simp [hn]
theorem eff_y {e : EndD} {t : TD} (h : e.kind = 2) (ht : t.isNum = some 0) : effT e t = ⟨1, 0, e.y, 0⟩ := by unfold effT; rw [if_pos h, ht]; simp

set_option maxRecDepth 100000 in
set_option maxHeartbeats 4000000 in
theorem rLast_cps (p : ProgD) (po no : Option Addr) (pn pc nn nc a : Nat) (np : List Int) (w : World) (h1 : VwF w p (.slice po pn pc) (.slice no nn nc) a np) (Post : Ending → World → Prop)
    (hjump : ∀ e w', e = endT p np a → e.kind = 1 → Below w.heap.size w w' → Post (.returned (.tuple #[.agg #[.int .i64 e.kind, .int .i64 e.r, .int .i64 e.x, .int .i64 e.y], .pointer none])) w')
    (hreg : ∀ e g w', e = endT p np a → (e.kind = 2 ∨ e.kind = 3) → (0 ≤ e.r ∧ e.r < p.regs) → TreeAt w' (finT p np a e.r) g → Below w.heap.size w w' → Post (.returned (.tuple #[.agg #[.int .i64 e.kind, .int .i64 e.r, .int .i64 e.x, .int .i64 e.y], .pointer (some ⟨g, 0, none⟩)])) w') :
    Calls Tryz.prog 158 #[viewV p (.slice po pn pc) a (.slice no nn nc)] w Post := by
  obtain ⟨hkind, hr0, hr1⟩ := (good_end h1.good h1.lt).1
  obtain ⟨bo, bc, e0, hll, hcc⟩ := id h1.rd.blocks
  simp only [Value.slice.injEq] at e0
  obtain ⟨rfl, hpn, rfl⟩ := e0
  obtain ⟨bb, boff, sv, rfl, _, y1, y2, y3, y4, _⟩ := hcc a h1.lt
  have HJ : Hid (∀ e w', e = endT p np a → e.kind = 1 → Below w.heap.size w w' → Post (.returned (.tuple #[.agg #[.int .i64 e.kind, .int .i64 e.r, .int .i64 e.x, .int .i64 e.y], .pointer none])) w') := hjump
  have HR : Hid (∀ e g w', e = endT p np a → (e.kind = 2 ∨ e.kind = 3) → (0 ≤ e.r ∧ e.r < p.regs) → TreeAt w' (finT p np a e.r) g → Below w.heap.size w w' → Post (.returned (.tuple #[.agg #[.int .i64 e.kind, .int .i64 e.r, .int .i64 e.x, .int .i64 e.y], .pointer (some ⟨g, 0, none⟩)])) w') := hreg
  have HE : Hid (endT p np a = effT ⟨bek p.blocks a, ber p.blocks a, bex p.blocks a, bey p.blocks a⟩ (finT p np a (ber p.blocks a))) := rfl
  have H1 := Lib.hid h1
  have hai : (0 : Int) ≤ (a : Int) := by omega
  have haj : (a : Int) < (pn : Int) := by have := h1.lt; omega
  have F1 := Lib.hid (h1.fine hr0 (show ber p.blocks a ≤ p.regs + p.slots by have := (good_shape h1.good).2.2.2; omega))
  have hr2 : ber p.blocks a ≤ p.regs + p.slots := by have := (good_shape h1.good).2.2.2; omega
  clear hjump hreg hcc h1 hpn
  unfold viewV
  generalize bek p.blocks a = ek at *
  generalize ber p.blocks a = er at *
  generalize bex p.blocks a = ex at *
  generalize bey p.blocks a = ey at *
  obtain ⟨W1, hW1⟩ : ∃ W, W = (w.alloc (.cells #[.int .i64 p.args, .int .i64 p.regs, .int .i64 p.data, .int .i64 p.slots, .slice (some ⟨bb, boff, none⟩) pn pc, .int .i64 a, .slice no nn nc] 164)).alloc (.cells #[.int .i64 0, .int .i64 0, .int .i64 0, .int .i64 0] 40) := ⟨_, rfl⟩
  have bW1 : Below w.heap.size w W1 := by subst hW1; exact ((Below.refl w.heap.size w).alloc (Nat.le_refl _) _).alloc (by simp) _
  have x1 := cell_keep bW1 y1
  have x2 := cell_keep bW1 y2
  have x3 := cell_keep bW1 y3
  have x4 := cell_keep bW1 y4
  rw [hW1] at x1 x2 x3 x4
  clear hW1 bW1 W1 y1 y2 y3 y4
  obtain ⟨A, hA⟩ : ∃ A, A = ((w.alloc (.cells #[.int .i64 p.args, .int .i64 p.regs, .int .i64 p.data, .int .i64 p.slots, .slice (some ⟨bb, boff, none⟩) pn pc, .int .i64 a, .slice no nn nc] 164)).alloc (.cells #[.int .i64 0, .int .i64 0, .int .i64 0, .int .i64 0] 40)).alloc (.cells #[.int .i64 ek, .int .i64 er, .int .i64 ex, .int .i64 ey] 40) := ⟨_, rfl⟩
  have r1 : Row A w.heap.size 164 [.int .i64 p.args, .int .i64 p.regs, .int .i64 p.data, .int .i64 p.slots, .slice (some ⟨bb, boff, none⟩) pn pc, .int .i64 a, .slice no nn nc] := by subst hA; exact Row.alloc (Row.alloc (heap_alloc_new w _) _) _
  have r2 : Row A (w.heap.size + 1) 40 [.int .i64 0, .int .i64 0, .int .i64 0, .int .i64 0] := by subst hA; exact Row.alloc (heap_alloc2_new w _ _) _
  have r3 : Row A (w.heap.size + 2) 40 [.int .i64 ek, .int .i64 er, .int .i64 ex, .int .i64 ey] := by
    subst hA
    have q := heap_alloc2_new (w.alloc (.cells #[.int .i64 p.args, .int .i64 p.regs, .int .i64 p.data, .int .i64 p.slots, .slice (some ⟨bb, boff, none⟩) pn pc, .int .i64 a, .slice no nn nc] 164)) (.cells #[.int .i64 0, .int .i64 0, .int .i64 0, .int .i64 0] 40) (.cells #[.int .i64 ek, .int .i64 er, .int .i64 ex, .int .i64 ey] 40)
    simp only [World.size_alloc] at q
    exact q
  have b0 : Below w.heap.size w A := by subst hA; exact (((Below.refl w.heap.size w).alloc (Nat.le_refl _) _).alloc (by simp) _).alloc (by simp; omega) _
  have HA := Lib.hid hA
  clear hA
  by_cases hk1 : ek = 1
  · subst hk1
    have HF := Lib.hid (HJ.out ⟨1, er, ex, ey⟩ (((w.alloc (.cells #[.int .i64 p.args, .int .i64 p.regs, .int .i64 p.data, .int .i64 p.slots, .slice (some ⟨bb, boff, none⟩) pn pc, .int .i64 a, .slice no nn nc] 164)).alloc (.cells #[.int .i64 1, .int .i64 er, .int .i64 ex, .int .i64 ey] 40)).alloc (.cells #[.int .i64 1, .int .i64 er, .int .i64 ex, .int .i64 ey] 40)) (by rw [HE.out, eff_one rfl]) rfl ((((Below.refl w.heap.size w).alloc (Nat.le_refl _) _).alloc (by simp) _).alloc (by simp; omega) _))
    clear r1 r2 r3 b0 HJ HR HE H1 F1 HA A
    go_enter Tryz.func158, Tryz.ntmps158
    go_wp2
    exact bodyPost_ret (v := .tuple #[.agg #[.int .i64 1, .int .i64 er, .int .i64 ex, .int .i64 ey], .pointer none]) (by simp [results, Tryz.results158, go_sem]) rfl HF.out
  · have hk23 : ek = 2 ∨ ek = 3 := by omega
    have hk1' : (ek == 1) = false := by simp [hk1]
    have q1 := fun P' => (H1.out.keep b0).final er hr0 hr2 P'
    unfold viewV at q1
    rw [HA.out] at q1
    have HR1 := Lib.hid r1
    have HR2 := Lib.hid r2
    have HR3 := Lib.hid r3
    have HB0 := Lib.hid b0
    rw [HA.out] at HR1 HR2 HR3 HB0
    clear r1 r2 r3 b0 HA A
    go_enter Tryz.func158, Tryz.ntmps158
    go_wp2_with fail
    refine q1 _ ?_
    intro g w2 t2 b2
    have b02 := HB0.out.trans (b2.mono HB0.out.size)
    have r2 := HR2.out.keep b2
    have r3 := HR3.out.keep b2
    have c0 := t2.kindc
    have c1 := t2.numc
    have z0 := r2.cell (i := 0) rfl
    have f0 := r2.frozen 0
    have e0 := r3.cell (i := 0) rfl
    have z1 := r2.cell (i := 1) rfl
    have f1 := r2.frozen 1
    have e1 := r3.cell (i := 1) rfl
    have z2 := r2.cell (i := 2) rfl
    have f2 := r2.frozen 2
    have e2 := r3.cell (i := 2) rfl
    have z3 := r2.cell (i := 3) rfl
    have f3 := r2.frozen 3
    have e3 := r3.cell (i := 3) rfl
    clear q1 HR1 HR2 HR3 HB0 b2 x1 x2 x3 x4
    rcases hk23 with hk2 | hk3
    · by_cases hnum : (finT p np a er).kind = 100
      · have hisn := (isNum_kind F1.out).1 hnum
        rw [hnum] at c0
        by_cases hz : (finT p np a er).num = 0
        · rw [hz] at hisn c1
          have HF := Lib.hid (HJ.out ⟨1, 0, ey, 0⟩ (setE w2 (w.heap.size + 1) (.int .i64 1) (.int .i64 0) (.int .i64 ey) (.int .i64 0)) (by rw [HE.out, eff_y hk2 hisn]) rfl (setE_below b02 (by omega) _ _ _ _))
          unfold setE at HF
          have hk2' : (ek == 2) = true := by simp [hk2]
          clear HJ HR HE H1 F1 hisn hnum hz t2 b02 r2 r3 hk1
          go_wp2
          exact bodyPost_ret (v := .tuple #[.agg #[.int .i64 1, .int .i64 0, .int .i64 ey, .int .i64 0], .pointer none]) (by simp [results, Tryz.results158, go_sem, z0, z1, z2, z3]) rfl HF.out
        · have HF := Lib.hid (HJ.out ⟨1, 0, ex, 0⟩ (setE w2 (w.heap.size + 1) (.int .i64 1) (.int .i64 0) (.int .i64 ex) (.int .i64 0)) (by rw [HE.out, eff_x hk2 hisn hz]) rfl (setE_below b02 (by omega) _ _ _ _))
          unfold setE at HF
          have hz2 : ((finT p np a er).num == 0) = false := by simp [hz]
          have hk2' : (ek == 2) = true := by simp [hk2]
          clear HJ HR HE H1 F1 hisn hnum t2 b02 r2 r3 hk1
          generalize (finT p np a er).num = nn0 at *
          go_wp2
          exact bodyPost_ret (v := .tuple #[.agg #[.int .i64 1, .int .i64 0, .int .i64 ex, .int .i64 0], .pointer none]) (by simp [results, Tryz.results158, go_sem, z0, z1, z2, z3]) rfl HF.out
      · have hisn := (isNum_none F1.out).1 hnum
        have HF := Lib.hid (HR.out ⟨ek, er, ex, ey⟩ g (setE w2 (w.heap.size + 1) (.int .i64 ek) (.int .i64 er) (.int .i64 ex) (.int .i64 ey)) (by rw [HE.out, eff_none hk2 hisn]) (.inl hk2) ⟨hr0, hr1⟩ (t2.setE r2 _ _ _ _) (setE_below b02 (by omega) _ _ _ _))
        unfold setE at HF
        have hn1 : ((finT p np a er).kind == 100) = false := by simp [hnum]
        have hk2' : (ek == 2) = true := by simp [hk2]
        clear HJ HR HE H1 F1 hisn t2 b02 r2 r3 hk1 hk2
        generalize (finT p np a er).kind = kk0 at *
        go_wp2
        exact bodyPost_ret (v := .tuple #[.agg #[.int .i64 ek, .int .i64 er, .int .i64 ex, .int .i64 ey], .pointer (some ⟨g, 0, none⟩)]) (by simp [results, Tryz.results158, go_sem, z0, z1, z2, z3]) rfl HF.out
    · have HF := Lib.hid (HR.out ⟨ek, er, ex, ey⟩ g (setE w2 (w.heap.size + 1) (.int .i64 ek) (.int .i64 er) (.int .i64 ex) (.int .i64 ey)) (by rw [HE.out, eff_three hk3]) (.inr hk3) ⟨hr0, hr1⟩ (t2.setE r2 _ _ _ _) (setE_below b02 (by omega) _ _ _ _))
      unfold setE at HF
      have hk2' : (ek == 2) = false := by simp; omega
      clear HJ HR HE H1 F1 t2 b02 r2 r3 hk1 hk3 c0 c1
      go_wp2
      exact bodyPost_ret (v := .tuple #[.agg #[.int .i64 ek, .int .i64 er, .int .i64 ex, .int .i64 ey], .pointer (some ⟨g, 0, none⟩)]) (by simp [results, Tryz.results158, go_sem, z0, z1, z2, z3]) rfl HF.out

section
variable {f g : Int → TD} {h : List PingD} {e e' : EndD}
theorem on_13 (h1 : hsrc h e'.x.toNat ≠ e.x) : onD f g h e e' = 13 := by unfold onD; rw [if_pos h1]
theorem on_13y (h1 : hsrc h e'.x.toNat = e.x) (k : e.kind = 2) (h2 : hsrc h e'.y.toNat ≠ e.y) : onD f g h e e' = 13 := by unfold onD; rw [if_neg (fun c => c h1), if_pos ⟨k, h2⟩]
theorem on_14 (h1 : hsrc h e'.x.toNat = e.x) (h2 : e.kind = 2 → hsrc h e'.y.toNat = e.y) (h3 : ¬ ∀ x ∈ hpairs h e'.x.toNat, f x.reg = g x.place) : onD f g h e e' = 14 := by
  unfold onD; rw [if_neg (fun c => c h1), if_neg (fun c => c.2 (h2 c.1)), if_pos h3]
theorem on_14y (h1 : hsrc h e'.x.toNat = e.x) (k : e.kind = 2) (h2 : hsrc h e'.y.toNat = e.y) (h3 : ∀ x ∈ hpairs h e'.x.toNat, f x.reg = g x.place) (h4 : ¬ ∀ x ∈ hpairs h e'.y.toNat, f x.reg = g x.place) : onD f g h e e' = 14 := by
  unfold onD; rw [if_neg (fun c => c h1), if_neg (fun c => c.2 h2), if_neg (fun c => c h3), if_pos ⟨k, h4⟩]
theorem on_0 (h1 : hsrc h e'.x.toNat = e.x) (k : e.kind ≠ 2) (h3 : ∀ x ∈ hpairs h e'.x.toNat, f x.reg = g x.place) : onD f g h e e' = 0 := by
  unfold onD; rw [if_neg (fun c => c h1), if_neg (fun c => k c.1), if_neg (fun c => c h3), if_neg (fun c => k c.1)]
theorem on_0y (h1 : hsrc h e'.x.toNat = e.x) (h2 : hsrc h e'.y.toNat = e.y) (h3 : ∀ x ∈ hpairs h e'.x.toNat, f x.reg = g x.place) (h4 : ∀ x ∈ hpairs h e'.y.toNat, f x.reg = g x.place) : onD f g h e e' = 0 := by
  unfold onD; rw [if_neg (fun c => c h1), if_neg (fun c => c.2 h2), if_neg (fun c => c h3), if_neg (fun c => c.2 h4)]
end

set_option maxRecDepth 100000 in
set_option maxHeartbeats 4000000 in
theorem rOnward_cps (p q : ProgD) (po no qo mo : Option Addr) (pn pc nn nc qn qc mn mc a b : Nat) (np nq : List Int) (h : List PingD) (ho : Option Addr) (hn hc : Nat) (ek er ex ey fk fr fy : Int) (fx : Nat) (w : World) (h1 : VwF w p (.slice po pn pc) (.slice no nn nc) a np) (h2 : VwF w q (.slice qo qn qc) (.slice mo mn mc) b nq) (hh : RdHint w (.slice ho hn hc) h) (hfx : fx < h.length) (hfy : ek = 2 → 0 ≤ fy ∧ fy < h.length)
    (hin : ∀ d, d < h.length → ∀ x ∈ hpairs h d, (0 ≤ x.reg ∧ x.reg ≤ p.regs + p.slots) ∧ (0 ≤ x.place ∧ x.place ≤ q.regs + q.slots)) (Post : Ending → World → Prop)
    (hp : ∀ n w', onD (finT p np a) (finT q nq b) h ⟨ek, er, ex, ey⟩ ⟨fk, fr, fx, fy⟩ = n → Below w.heap.size w w' → Post (.returned (.int .i64 n)) w') :
    Calls Tryz.prog 159 #[viewV p (.slice po pn pc) a (.slice no nn nc), viewV q (.slice qo qn qc) b (.slice mo mn mc), .agg #[.slice ho hn hc], .agg #[.int .i64 ek, .int .i64 er, .int .i64 ex, .int .i64 ey], .agg #[.int .i64 fk, .int .i64 fr, .int .i64 (fx : Int), .int .i64 fy]] w Post := by
  obtain ⟨ho', hc', e0, hhl, hhs⟩ := hh
  simp only [Value.slice.injEq] at e0
  obtain ⟨rfl, hnl, rfl⟩ := e0
  obtain ⟨hg, hoff, xv, rfl, g0, g1, xr⟩ := hhs fx hfx
  obtain ⟨xo, xc, hxv, _, _⟩ := id xr
  subst hxv
  unfold viewV
  obtain ⟨A, hA⟩ : ∃ A, A = ((((w.alloc (.cells #[.int .i64 p.args, .int .i64 p.regs, .int .i64 p.data, .int .i64 p.slots, .slice po pn pc, .int .i64 a, .slice no nn nc] 164)).alloc (.cells #[.int .i64 q.args, .int .i64 q.regs, .int .i64 q.data, .int .i64 q.slots, .slice qo qn qc, .int .i64 b, .slice mo mn mc] 164)).alloc (.cells #[.slice (some ⟨hg, hoff, none⟩) hn hc] 30)).alloc (.cells #[.int .i64 ek, .int .i64 er, .int .i64 ex, .int .i64 ey] 40)).alloc (.cells #[.int .i64 fk, .int .i64 fr, .int .i64 (fx : Int), .int .i64 fy] 40) := ⟨_, rfl⟩
  have r1 : Row A w.heap.size 164 [.int .i64 p.args, .int .i64 p.regs, .int .i64 p.data, .int .i64 p.slots, .slice po pn pc, .int .i64 a, .slice no nn nc] := by subst hA; exact Row.alloc (Row.alloc (Row.alloc (Row.alloc (heap_alloc_new w _) _) _) _) _
  have r2 : Row A (w.heap.size + 1) 164 [.int .i64 q.args, .int .i64 q.regs, .int .i64 q.data, .int .i64 q.slots, .slice qo qn qc, .int .i64 b, .slice mo mn mc] := by subst hA; exact Row.alloc (Row.alloc (Row.alloc (heap_alloc2_new w _ _) _) _) _
  have r3 : Row A (w.heap.size + 2) 30 [.slice (some ⟨hg, hoff, none⟩) hn hc] := by
    subst hA
    have q := heap_alloc2_new (w.alloc (.cells #[.int .i64 p.args, .int .i64 p.regs, .int .i64 p.data, .int .i64 p.slots, .slice po pn pc, .int .i64 a, .slice no nn nc] 164)) (.cells #[.int .i64 q.args, .int .i64 q.regs, .int .i64 q.data, .int .i64 q.slots, .slice qo qn qc, .int .i64 b, .slice mo mn mc] 164) (.cells #[.slice (some ⟨hg, hoff, none⟩) hn hc] 30)
    simp only [World.size_alloc] at q
    exact Row.alloc (Row.alloc q _) _
  have r4 : Row A (w.heap.size + 3) 40 [.int .i64 ek, .int .i64 er, .int .i64 ex, .int .i64 ey] := by
    subst hA
    have q := heap_alloc2_new ((w.alloc (.cells #[.int .i64 p.args, .int .i64 p.regs, .int .i64 p.data, .int .i64 p.slots, .slice po pn pc, .int .i64 a, .slice no nn nc] 164)).alloc (.cells #[.int .i64 q.args, .int .i64 q.regs, .int .i64 q.data, .int .i64 q.slots, .slice qo qn qc, .int .i64 b, .slice mo mn mc] 164)) (.cells #[.slice (some ⟨hg, hoff, none⟩) hn hc] 30) (.cells #[.int .i64 ek, .int .i64 er, .int .i64 ex, .int .i64 ey] 40)
    simp only [World.size_alloc] at q
    exact Row.alloc q _
  have r5 : Row A (w.heap.size + 4) 40 [.int .i64 fk, .int .i64 fr, .int .i64 (fx : Int), .int .i64 fy] := by
    subst hA
    have q := heap_alloc2_new (((w.alloc (.cells #[.int .i64 p.args, .int .i64 p.regs, .int .i64 p.data, .int .i64 p.slots, .slice po pn pc, .int .i64 a, .slice no nn nc] 164)).alloc (.cells #[.int .i64 q.args, .int .i64 q.regs, .int .i64 q.data, .int .i64 q.slots, .slice qo qn qc, .int .i64 b, .slice mo mn mc] 164)).alloc (.cells #[.slice (some ⟨hg, hoff, none⟩) hn hc] 30)) (.cells #[.int .i64 ek, .int .i64 er, .int .i64 ex, .int .i64 ey] 40) (.cells #[.int .i64 fk, .int .i64 fr, .int .i64 (fx : Int), .int .i64 fy] 40)
    simp only [World.size_alloc] at q
    exact q
  have b0 : Below w.heap.size w A := by subst hA; exact (((((Below.refl w.heap.size w).alloc (Nat.le_refl _) _).alloc (by simp) _).alloc (by simp; omega) _).alloc (by simp; omega) _).alloc (by simp; omega) _
  have q1 := fun W (hW : Below A.heap.size A W) (P' : Ending → World → Prop) (hP' : ∀ z w', (z = true ↔ ∀ x ∈ hpairs h fx, finT p np a x.reg = finT q nq b x.place) → Below A.heap.size A w' → P' (.returned (.bool z)) w') => rPaired_cps p q po no qo mo pn pc nn nc qn qc mn mc a b np nq (hpairs h fx) xo (hpairs h fx).length xc W (h1.keep (b0.trans (hW.mono b0.size))) (h2.keep (b0.trans (hW.mono b0.size))) (xr.keep (b0.trans (hW.mono b0.size))) (hin fx hfx) P' (fun z w' hz hb => hP' z w' hz (hW.trans (hb.mono hW.size)))
  unfold viewV at q1
  have HP : Hid (∀ n w', onD (finT p np a) (finT q nq b) h ⟨ek, er, ex, ey⟩ ⟨fk, fr, fx, fy⟩ = n → Below A.heap.size A w' → Post (.returned (.int .i64 n)) w') := fun n w' hn hb => hp n w' hn (b0.trans (hb.mono b0.size))
  have BD : ∀ n, Below A.heap.size A (A.drewN n).drew := fun n => (below_drewN (Below.refl _ _) n).drew
  have BD2 : ∀ n m, Below A.heap.size A ((A.drewN n).drewN m).drew := fun n m => (below_drewN (below_drewN (Below.refl _ _) n) m).drew
  have BD3 : ∀ n : Nat, Below A.heap.size A A.drew := fun _ => (Below.refl _ _).drew
  have DN : ∀ n, Below A.heap.size A (A.drewN n) := fun n => below_drewN (Below.refl _ _) n
  have DM : ∀ n m, Below A.heap.size A ((A.drewN n).drewN m) := fun n m => below_drewN (DN n) m
  have x0 := cell_keep b0 g0
  have hxi : (0 : Int) ≤ (fx : Int) := by omega
  have hxj : (fx : Int) < (hn : Int) := by omega
  have HNL := Lib.hid hnl
  clear hnl
  have x1 := fun V (hV : Below A.heap.size A V) => cell_keep hV (cell_keep b0 g1)
  have h30 := r3.cell (i := 0) rfl
  have e40 := r4.cell (i := 0) rfl
  have e42 := r4.cell (i := 2) rfl
  have e43 := r4.cell (i := 3) rfl
  have f52 := r5.cell (i := 2) rfl
  have f53 := r5.cell (i := 3) rfl
  have c0 := fun V (hV : Below A.heap.size A V) => cell_keep hV (r1.cell (i := 0) rfl)
  have c1 := fun V (hV : Below A.heap.size A V) => cell_keep hV (r1.cell (i := 1) rfl)
  have c2 := fun V (hV : Below A.heap.size A V) => cell_keep hV (r1.cell (i := 2) rfl)
  have c3 := fun V (hV : Below A.heap.size A V) => cell_keep hV (r1.cell (i := 3) rfl)
  have c4 := fun V (hV : Below A.heap.size A V) => cell_keep hV (r1.cell (i := 4) rfl)
  have c5 := fun V (hV : Below A.heap.size A V) => cell_keep hV (r1.cell (i := 5) rfl)
  have c6 := fun V (hV : Below A.heap.size A V) => cell_keep hV (r1.cell (i := 6) rfl)
  have d0 := fun V (hV : Below A.heap.size A V) => cell_keep hV (r2.cell (i := 0) rfl)
  have d1 := fun V (hV : Below A.heap.size A V) => cell_keep hV (r2.cell (i := 1) rfl)
  have d2 := fun V (hV : Below A.heap.size A V) => cell_keep hV (r2.cell (i := 2) rfl)
  have d3 := fun V (hV : Below A.heap.size A V) => cell_keep hV (r2.cell (i := 3) rfl)
  have d4 := fun V (hV : Below A.heap.size A V) => cell_keep hV (r2.cell (i := 4) rfl)
  have d5 := fun V (hV : Below A.heap.size A V) => cell_keep hV (r2.cell (i := 5) rfl)
  have d6 := fun V (hV : Below A.heap.size A V) => cell_keep hV (r2.cell (i := 6) rfl)
  have k0 := fun V (hV : Below A.heap.size A V) => cell_keep hV (r3.cell (i := 0) rfl)
  have l0 := fun V (hV : Below A.heap.size A V) => cell_keep hV (r4.cell (i := 0) rfl)
  have m2 := fun V (hV : Below A.heap.size A V) => cell_keep hV (r5.cell (i := 2) rfl)
  have m3 := fun V (hV : Below A.heap.size A V) => cell_keep hV (r5.cell (i := 3) rfl)
  have HA := Lib.hid hA
  clear hA hp g0 g1
  by_cases c1' : hsrc h fx = ex
  case neg =>
    have e1 : (hsrc h fx == ex) = false := by rw [beq_eq_false_iff_ne]; exact c1'
    have HF := Lib.hid (fun n => HP.out 13 (A.drewN n) (on_13 (by simpa using c1')) (DN n))
    clear c1' hhs q1 c0 c1 c2 c3 c4 c5 c6 d0 d1 d2 d3 d4 d5 d6 k0 l0 m2 m3 x1 BD BD2 BD3 DN DM h1 h2 hin xr
    generalize hsrc h fx = sx at *
    go_enter Tryz.func159, Tryz.ntmps159
    go_wp2
    rw [← HA.out]
    go_quiet (fail)
    go_wp2
    exact HF.out _
  have e1 : (hsrc h fx == ex) = true := by rw [beq_iff_eq]; exact c1'
  have HC1 := Lib.hid c1'
  rw [c1'] at x0 e1
  clear c1'
  by_cases hk : ek = 2
  case neg =>
    have e2 : (ek == 2) = false := by rw [beq_eq_false_iff_ne]; exact hk
    have HK := Lib.hid hk
    clear hk hhs h1 h2 hin xr hfy r1 r2 r3 r4 r5
    go_enter Tryz.func159, Tryz.ntmps159
    go_wp2
    rw [← HA.out]
    go_quiet (fail)
    go_wp2
    (try (go_quiet (fail)))
    generalize (hpairs h fx).length = xn at *
    go_wp2
    go_region_held3 (fun V => Below A.heap.size A V) (first | with_reducible exact KD | with_reducible exact b3 | exact BD _ | exact BD2 _ _ | exact BD3 _) (first | (go_at_call 182; refine q1 _ (by first | with_reducible exact KD | with_reducible exact b3 | exact BD _ | exact BD2 _ _ | exact BD3 _) _ ?_; intro z w3 hz b3))
    have HZ := Lib.hid hz
    clear hz q1 c0 c1 c2 c3 c4 c5 c6 d0 d1 d2 d3 d4 d5 d6 k0 m2 m3 x1
    have l30 := l0 w3 b3
    clear l0
    cases z with
    | false =>
      have HF := Lib.hid (HP.out 14 _ (on_14 (by simpa using HC1.out) (fun c => absurd c HK.out) (fun hA => by have := HZ.out.2 (by simpa using hA); cases this)) b3)
      go_wp2
      exact HF.out
    | true =>
      have HF := Lib.hid (HP.out 0 _ (on_0 (by simpa using HC1.out) HK.out (by simpa using HZ.out.1 rfl)) b3)
      go_wp2
      exact HF.out
  obtain ⟨hy0, hy1⟩ := hfy hk
  obtain ⟨fy, rfl⟩ := Int.eq_ofNat_of_zero_le hy0
  have hfy' : fy < h.length := by omega
  obtain ⟨hg', hoff', yv, hgo, g0, g1, yr⟩ := hhs fy hfy'
  simp only [Option.some.injEq, Addr.mk.injEq, and_true] at hgo
  obtain ⟨rfl, rfl⟩ := hgo
  obtain ⟨yo, yc, hyv, _, _⟩ := id yr
  subst hyv
  have q2 := fun W (hW : Below A.heap.size A W) (P' : Ending → World → Prop) (hP' : ∀ z w', (z = true ↔ ∀ x ∈ hpairs h fy, finT p np a x.reg = finT q nq b x.place) → Below A.heap.size A w' → P' (.returned (.bool z)) w') => rPaired_cps p q po no qo mo pn pc nn nc qn qc mn mc a b np nq (hpairs h fy) yo (hpairs h fy).length yc W (h1.keep (b0.trans (hW.mono b0.size))) (h2.keep (b0.trans (hW.mono b0.size))) (yr.keep (b0.trans (hW.mono b0.size))) (hin fy hfy') P' (fun z w' hz hb => hP' z w' hz (hW.trans (hb.mono hW.size)))
  unfold viewV at q2
  have y0 := cell_keep b0 g0
  have y1 := fun V (hV : Below A.heap.size A V) => cell_keep hV (cell_keep b0 g1)
  have hyi : (0 : Int) ≤ (fy : Int) := by omega
  have hyj : (fy : Int) < (hn : Int) := by have := HNL.out; omega
  have e2 : (ek == 2) = true := by rw [beq_iff_eq]; exact hk
  have HK := Lib.hid hk
  clear hk g0 g1 hhs h1 h2 hin xr yr hfy r1 r2 r3 r4 r5
  by_cases c2' : hsrc h fy = ey
  case neg =>
    have e3 : (hsrc h fy == ey) = false := by rw [beq_eq_false_iff_ne]; exact c2'
    have HF := Lib.hid (fun n m => HP.out 13 ((A.drewN n).drewN m) (on_13y (by simpa using HC1.out) HK.out (by simpa using c2')) (DM n m))
    have HF2 := Lib.hid (fun n => HP.out 13 (A.drewN n) (on_13y (by simpa using HC1.out) HK.out (by simpa using c2')) (DN n))
    clear c2' q1 q2 c0 c1 c2 c3 c4 c5 c6 d0 d1 d2 d3 d4 d5 d6 k0 l0 m2 m3 x1 y1 BD BD2 BD3 DN DM
    generalize hsrc h fy = sy at *
    go_enter Tryz.func159, Tryz.ntmps159
    go_wp2
    rw [← HA.out]
    go_quiet (fail)
    go_wp2
    go_quiet (fail)
    go_wp2
    first | exact HF.out _ _ | exact HF2.out _
  have e3 : (hsrc h fy == ey) = true := by rw [beq_iff_eq]; exact c2'
  have HC2 := Lib.hid c2'
  rw [c2'] at y0 e3
  clear c2'
  go_enter Tryz.func159, Tryz.ntmps159
  go_wp2
  rw [← HA.out]
  go_quiet (fail)
  go_wp2
  go_quiet (fail)
  generalize (hpairs h fx).length = xn at *
  generalize (hpairs h fy).length = yn at *
  go_wp2
  go_region_held3 (fun V => Below A.heap.size A V) (first | with_reducible exact KD | with_reducible exact b3 | exact BD _ | exact BD2 _ _ | exact BD3 _) (first | (go_at_call 182; refine q1 _ (by first | with_reducible exact KD | with_reducible exact b3 | exact BD _ | exact BD2 _ _ | exact BD3 _) _ ?_; intro z w3 hz b3))
  have HZ := Lib.hid hz
  have KD : Below A.heap.size A w3.drew := b3.drew
  have l30 := l0 w3 b3
  clear hz q1 x1
  cases z with
  | false =>
    clear c0 c1 c2 c3 c4 c5 c6 d0 d1 d2 d3 d4 d5 d6 k0 m2 m3 l0 y1 q2
    have HF := Lib.hid (HP.out 14 _ (on_14 (by simpa using HC1.out) (fun _ => by simpa using HC2.out) (fun hA => by have := HZ.out.2 (by simpa using hA); cases this)) b3)
    go_wp2
    exact HF.out
  | true =>
    have HB3 := Lib.hid b3
    have HZT := Lib.hid (HZ.out.1 rfl)
    clear b3 HZ
    go_wp2
    go_region_held3 (fun V => Below A.heap.size A V) (first | with_reducible exact KD | with_reducible exact b3) (first | (go_at_call 182; refine q2 _ (by first | with_reducible exact KD | with_reducible exact b3) _ ?_; intro z2 w4 hz b3))
    have HZ2 := Lib.hid hz
    clear hz q2 y1 c0 c1 c2 c3 c4 c5 c6 d0 d1 d2 d3 d4 d5 d6 k0 m2 m3 l0 l30
    cases z2 with
    | false =>
      have HF := Lib.hid (HP.out 14 _ (on_14y (by simpa using HC1.out) HK.out (by simpa using HC2.out) (by simpa using HZT.out) (fun hA => by have := HZ2.out.2 (by simpa using hA); cases this)) b3)
      go_wp2
      exact HF.out
    | true =>
      have HF := Lib.hid (HP.out 0 _ (on_0y (by simpa using HC1.out) (by simpa using HC2.out) (by simpa using HZT.out) (by simpa using HZ2.out.1 rfl)) b3)
      go_wp2
      exact HF.out

end Go.Proofs.YtblhmeidbjigaabGreatDoor
