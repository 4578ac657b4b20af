/- Package compare: compareBlocks. -/
import Derived.Test.YtblhmeidbjigaabGreatDoorRows
import Derived.WalkKit
import Derived.WalkSpells
import Derived.WalkLawsBesides
import Derived.Laws.BytesArg
import Derived.Deep.QuietTactic
import Derived.BigQuiet
import Derived.Deep.RegionHeld3
import Derived.Lib.ItoaNum
import Derived.Lib.ItoaLen
import Derived.OpenShut
import Derived.Maps.AppendAt
import Derived.Shelf.Strconv.Itoa3
import Derived.Shelf.Lay
import Derived.Ground.NamesProg
import Derived.Lib.SmallJoins
import Derived.Lib.Hide
import Derived.StillTailTactics
import Derived.ProofKit
import Derived.SizedLaws
import Derived.Deep.Slices
import Derived.Deep.RegionLaw
import Derived.Deep.AppendLies
import Derived.Test.YtblhmeidbjigaabGreatDoorVCmGJoinedQuiet

set_option linter.unusedSimpArgs false
set_option linter.unusedVariables false
namespace Go.Proofs.YtblhmeidbjigaabGreatDoor
open Go.RowKit

set_option maxRecDepth 100000 in
set_option maxHeartbeats 4000000 in
theorem vBlocks_cps (p q : ProgD) (po qo ho : Option Addr) (pc qc hc : Nat) (h : List PingD) (hgp : progGood p = true) (hgq : progGood q = true) (hps : p.slots = 0) (hs : suitsD p q h) (hgh : goodHint h = true) (w : World)
    (hrp : RdBlocks w (.slice po p.blocks.length pc) p.blocks) (hrq : RdBlocks w (.slice qo q.blocks.length qc) q.blocks) (hrh : RdHint w (.slice ho h.length hc) h) (ht : TabW w) (Post : Ending → World → Prop)
    (hno : ∀ b w', b < q.blocks.length → codeD p q h b ≠ 0 → (∀ c, c < b → codeD p q h c = 0) → Below w.heap.size w w' → Post (.returned (.tuple #[.int .i64 (codeD p q h b), .int .i64 b])) w')
    (hyes : ∀ w', (∀ c, c < q.blocks.length → codeD p q h c = 0) → Below w.heap.size w w' → Post (.returned (.tuple #[.int .i64 0, .int .i64 0])) w') :
    Calls Tryz.prog 62 #[.agg #[.int .i64 p.args, .int .i64 p.regs, .int .i64 p.data, .int .i64 p.slots, .slice po p.blocks.length pc, .int .i64 q.args, .int .i64 q.regs, .int .i64 q.data, .int .i64 q.slots, .slice qo q.blocks.length qc, .slice ho h.length hc]] w Post := by
  have HBLK : Hid (∀ b V P', b < q.blocks.length → Below w.heap.size w V → (∀ w', Below V.heap.size V w' → P' (.returned (.int .i64 (codeD p q h b))) w') → Calls Tryz.prog 102 #[.agg #[.int .i64 p.args, .int .i64 p.regs, .int .i64 p.data, .int .i64 p.slots, .slice po p.blocks.length pc, .int .i64 q.args, .int .i64 q.regs, .int .i64 q.data, .int .i64 q.slots, .slice qo q.blocks.length qc, .slice ho h.length hc], .int .i64 b] V P') := fun b V P' hb hV hP =>
    vBlock_cps p q po qo ho pc qc hc h b hgp hgq hps hs hgh hb V (hrp.keep hV) (hrq.keep hV) (hrh.keep hV) (ht.keep hV) P' hP
  have HNO := Lib.hid hno
  have HYES := Lib.hid hyes
  obtain ⟨pn, hpn⟩ : ∃ pn, pn = p.blocks.length := ⟨_, rfl⟩
  obtain ⟨qn, hqn⟩ : ∃ qn, qn = q.blocks.length := ⟨_, rfl⟩
  obtain ⟨hn, hhn⟩ : ∃ hn, hn = h.length := ⟨_, rfl⟩
  have hqs : qn ≤ 1000 := by have := progGood_len hgq; omega
  rw [← hpn, ← hqn, ← hhn]
  rw [← hpn, ← hqn, ← hhn] at HBLK
  have HQN := Lib.hid hqn
  have b0 : Below w.heap.size w (w.alloc (.cells #[.int .i64 p.args, .int .i64 p.regs, .int .i64 p.data, .int .i64 p.slots, .slice po pn pc, .int .i64 q.args, .int .i64 q.regs, .int .i64 q.data, .int .i64 q.slots, .slice qo qn qc, .slice ho hn hc] 120)) := (Below.refl _ _).alloc (Nat.le_refl _) _
  have r0 : Row (w.alloc (.cells #[.int .i64 p.args, .int .i64 p.regs, .int .i64 p.data, .int .i64 p.slots, .slice po pn pc, .int .i64 q.args, .int .i64 q.regs, .int .i64 q.data, .int .i64 q.slots, .slice qo qn qc, .slice ho hn hc] 120)) w.heap.size 120 [.int .i64 p.args, .int .i64 p.regs, .int .i64 p.data, .int .i64 p.slots, .slice po pn pc, .int .i64 q.args, .int .i64 q.regs, .int .i64 q.data, .int .i64 q.slots, .slice qo qn qc, .slice ho hn hc] := heap_alloc_new w _
  obtain ⟨W, hW⟩ : ∃ W, W = (w.alloc (.cells #[.int .i64 p.args, .int .i64 p.regs, .int .i64 p.data, .int .i64 p.slots, .slice po pn pc, .int .i64 q.args, .int .i64 q.regs, .int .i64 q.data, .int .i64 q.slots, .slice qo qn qc, .slice ho hn hc] 120)) := ⟨_, rfl⟩
  rw [← hW] at b0 r0
  have HWE := Lib.hid hW
  clear hno hyes hps hs hrp hrq hrh ht hpn hqn hhn hW
  obtain ⟨pr, hpr⟩ : ∃ pr, pr = p.regs := ⟨_, rfl⟩
  clear hpr pr
  go_enter Tryz.func62, Tryz.ntmps62
  go_wp2
  rw [← HWE.out]
  clear HWE
  go_loopw [4] (fun i wr => ∃ (k : Nat), k ≤ qn ∧ i = .int .i64 k ∧ Below W.heap.size W wr ∧ Hid (∀ c, c < k → codeD p q h c = 0))
    (fun i _ => qn - (intOf i).toNat)
  case atStart => exact ⟨0, Nat.zero_le _, rfl, Below.refl _ _, fun j hj => by omega⟩
  case round =>
    obtain ⟨k, hk, rfl, hbel, hall⟩ := hrel
    have hbw : Below w.heap.size w wr := b0.trans (hbel.mono b0.size)
    have r1 := r0.keep hbel
    have oc0 := r1.cell (i := 0) rfl
    have oc1 := r1.cell (i := 1) rfl
    have oc2 := r1.cell (i := 2) rfl
    have oc3 := r1.cell (i := 3) rfl
    have oc4 := r1.cell (i := 4) rfl
    have oc5 := r1.cell (i := 5) rfl
    have oc6 := r1.cell (i := 6) rfl
    have oc7 := r1.cell (i := 7) rfl
    have oc8 := r1.cell (i := 8) rfl
    have oc9 := r1.cell (i := 9) rfl
    have oc10 := r1.cell (i := 10) rfl
    by_cases hlt : k < qn
    · have q1 := fun P' => HBLK.out k wr P' hlt hbw
      have hki : (k : Int) < (qn : Int) := by omega
      have HBEL := Lib.hid hbel
      have HBW := Lib.hid hbw
      clear hbel hbw r1
      go_wp2_with fail
      refine q1 _ ?_
      intro w2 b2
      have b3 := HBEL.out.trans (b2.mono HBEL.out.size)
      have b4 := HBW.out.trans (b2.mono HBW.out.size)
      clear q1 b2 HBEL HBW oc0 oc1 oc2 oc3 oc4 oc5 oc6 oc7 oc8 oc9 oc10
      by_cases hz : codeD p q h k = 0
      · have hzq : (codeD p q h k == 0) = true := by rw [beq_iff_eq]; exact hz
        have hall2 : Hid (∀ c, c < k + 1 → codeD p q h c = 0) := fun j hj => by
          by_cases e : j = k
          · rw [e]; exact hz
          · exact hall.out j (by omega)
        have HZ := Lib.hid hz
        clear hall b4
        generalize codeD p q h k = cd at *
        go_wp2
        go_roundw
        case rel => exact ⟨k + 1, by omega, by go_num, b3, hall2⟩
        case measure => simp [intOf]; omega
      · have hzq : (codeD p q h k == 0) = false := by rw [beq_eq_false_iff_ne]; exact hz
        have HF := Lib.hid (HNO.out k w2 (by rw [← HQN.out]; exact hlt) hz hall.out b4)
        clear hall b3 b4 HNO HYES HBLK
        generalize codeD p q h k = cd at *
        go_wp2
        exact HF.out
    · obtain rfl : k = qn := by omega
      have HF := Lib.hid (HYES.out wr (fun c hc => hall.out c (by rw [HQN.out]; exact hc)) hbw)
      clear hall hbel hbw HNO HYES HBLK r1
      go_wp2
      exact HF.out

end Go.Proofs.YtblhmeidbjigaabGreatDoor

/- Validate, in package compare and in package twin. -/
set_option linter.unusedSimpArgs false
set_option linter.unusedVariables false
namespace Go.Proofs.YtblhmeidbjigaabGreatDoor
open Go.RowKit

theorem code_is_wrong {p q : ProgD} {h : List PingD} (hgp : progGood p = true) (hgq : progGood q = true) (hps : p.slots = 0) (hs : suitsD p q h) (hgh : goodHint h = true) {b : Nat} (hb : b < q.blocks.length) : codeD p q h b = wrongD p q h b := by
  obtain ⟨hpr, hpa, hpd, hpsl⟩ := good_shape hgp
  obtain ⟨hqr, hqa, hqd, hqsl⟩ := good_shape hgq
  have hbh : b < h.length := by rw [hs.1]; exact hb
  obtain ⟨hsl, hpl⟩ := hs.2 b hbh
  obtain ⟨hs0, hpos⟩ := goodHint_at hgh hbh
  have hsb : (hsrc h b).toNat < p.blocks.length := by omega
  obtain ⟨hp12, hpops⟩ := good_block hgp hsb
  obtain ⟨hq12, hqops⟩ := good_block hgq hb
  rw [hps] at hpops
  have F1 : ∀ k, k ≤ (srcOps p h b).length → ∀ i : Int, 0 ≤ i → i ≤ p.regs + 0 → (behindT p.regs 0 (plainNames p.regs 0) (srcOps p h b) k i).fine := fun k hk i h0 h1 => behindT_fine (by omega) (by omega) (plain_small (by omega)) hpops k hk i h0 h1
  have F2 : ∀ k, k ≤ (bops q.blocks b).length → ∀ i : Int, 0 ≤ i → i ≤ q.regs + q.slots → (behindT q.regs q.slots (namesOf (hpairs h b) (q.regs + q.slots).toNat) (bops q.blocks b) k i).fine := fun k hk i h0 h1 => behindT_fine (by omega) (by omega) (names_small (fun x hx => by have := (hpl x hx).1; omega) _) hqops k hk i h0 h1
  obtain ⟨m1, f1⟩ := marks_show (data := p.data) F1 hpops (by omega) (by omega) _ (Nat.le_refl _)
  obtain ⟨m2, f2⟩ := marks_show (data := q.data) F2 hqops (by omega) (by omega) _ (Nat.le_refl _)
  obtain ⟨⟨k1, r1, r1'⟩, _⟩ := good_end hgp hsb
  obtain ⟨⟨k2, r2, r2'⟩, _⟩ := good_end hgq hb
  refine code_wrong p q h b ⟨fun e => map_show_inj f1 f2 (by rw [← m1, ← m2]; exact e), fun e => by rw [m1, m2, e]⟩ k1 k2 (F1 _ (Nat.le_refl _) _ r1 (by have : (bfin p.blocks (hsrc h b).toNat).r < p.regs := r1'; omega)) (F2 _ (Nat.le_refl _) _ r2 (by have : (bfin q.blocks b).r < q.regs := r2'; omega))

set_option maxRecDepth 100000 in
set_option maxHeartbeats 4000000 in
theorem vVal_cps (s t g : ByteArray) (w : World) (hs : s.size ≤ maxLen) (ht : t.size ≤ maxLen) (hgz : g.size ≤ maxLen) (htab : TabW w) (Post : Ending → World → Prop)
    (hp : ∀ e n w', ValAns s t g e n → Below w.heap.size w w' → Post (.returned (.tuple #[.int .i64 e, .int .i64 n])) w') :
    Calls Tryz.prog 34 #[.string s, .string t, .string g] w Post := by
  have hc := cDecode_any s w hs
  have HP := Lib.hid hp
  clear hp
  go_enter Tryz.func34, Tryz.ntmps34
  go_wp2_with fail
  refine hc.mono ?_
  clear hc
  rintro e w1 ⟨hor, hb1⟩
  rcases hor with ⟨p, v, bv, rfl, ho, hd, hgp, htp⟩ | ⟨hn, rfl⟩
  case inr =>
    have HF := Lib.hid (HP.out 6 0 (w1.alloc (.cells #[.int .i64 0, .int .i64 0, .int .i64 0, .int .i64 0, .slice none 0 0] 25)) (.inl ⟨rfl, rfl, fun p hg he => absurd he (hn p hg)⟩) (hb1.alloc hb1.size _))
    clear hb1 hn HP
    go_wp2
    exact HF.out
  obtain ⟨po, pc, rfl⟩ := owns_slice ho.row
  have hrp0 := ho.rd
  rw [hd] at hrp0
  obtain ⟨pn, hpn⟩ : ∃ pn, pn = bv.length := ⟨_, rfl⟩
  have hpl : pn = p.blocks.length := by rw [hpn, ← hd, bdat_length]
  rw [← hpn] at hrp0 ⊢
  unfold progV
  have bp : Below w.heap.size w (w1.alloc (.cells #[.int .i64 p.args, .int .i64 p.regs, .int .i64 p.data, .int .i64 p.slots, .slice po pn pc] 25)) := hb1.alloc hb1.size _
  have bp1 : Below w1.heap.size w1 (w1.alloc (.cells #[.int .i64 p.args, .int .i64 p.regs, .int .i64 p.data, .int .i64 p.slots, .slice po pn pc] 25)) := (Below.refl _ _).alloc (Nat.le_refl _) _
  have rp1 : Row (w1.alloc (.cells #[.int .i64 p.args, .int .i64 p.regs, .int .i64 p.data, .int .i64 p.slots, .slice po pn pc] 25)) w1.heap.size 25 [.int .i64 p.args, .int .i64 p.regs, .int .i64 p.data, .int .i64 p.slots, .slice po pn pc] := heap_alloc_new w1 _
  have hrp1 := hrp0.keep bp1
  have HPL := Lib.hid hpl
  have HONE : Hid (∀ p', progGood p' = true → str (progText p') = s → p' = p) := fun p' hg he => prog_one hg hgp (he.trans htp.symm)
  have HTP := Lib.hid htp
  clear ho hd hrp0 hb1 bp1 hpn hpl htp
  by_cases hps : p.slots = 0
  case neg =>
    have HF := Lib.hid (HP.out 6 0 (w1.alloc (.cells #[.int .i64 p.args, .int .i64 p.regs, .int .i64 p.data, .int .i64 p.slots, .slice po pn pc] 25)) (.inl ⟨rfl, rfl, fun p' hg he => by rw [HONE.out p' hg he]; exact hps⟩) bp)
    have hq : (p.slots == 0) = false := by rw [beq_eq_false_iff_ne]; exact hps
    clear bp rp1 hrp1 HP
    go_wp2
    exact HF.out
  have hq0 : (p.slots == 0) = true := by rw [beq_iff_eq]; exact hps
  have HPS := Lib.hid hps
  have hc2 := cDecode_any t (w1.alloc (.cells #[.int .i64 p.args, .int .i64 p.regs, .int .i64 p.data, .int .i64 p.slots, .slice po pn pc] 25)) ht
  have HB := Lib.hid bp
  have HRP := Lib.hid hrp1
  have HRow := Lib.hid rp1
  clear hps bp hrp1 rp1
  go_wp2_with fail
  refine hc2.mono ?_
  clear hc2
  rintro e w2 ⟨hor2, hb2⟩
  have b2 := HB.out.trans (hb2.mono HB.out.size)
  have rp2 := HRow.out.keep hb2
  have hrp2 := HRP.out.keep hb2
  clear HB HRP HRow hq0
  rcases hor2 with ⟨q, v2, bv2, rfl, ho2, hd2, hgq, htq⟩ | ⟨hn2, rfl⟩
  case inr =>
    have HF := Lib.hid (HP.out 7 0 (w2.alloc (.cells #[.int .i64 0, .int .i64 0, .int .i64 0, .int .i64 0, .slice none 0 0] 25)) (.inr ⟨p, hgp, HTP.out, HPS.out, .inl ⟨rfl, rfl, hn2⟩⟩) (b2.alloc b2.size _))
    clear b2 hn2 HP rp2 hrp2 hb2
    go_wp2
    exact HF.out
  obtain ⟨qo, qc, rfl⟩ := owns_slice ho2.row
  have hrq0 := ho2.rd
  rw [hd2] at hrq0
  obtain ⟨qn, hqn⟩ : ∃ qn, qn = bv2.length := ⟨_, rfl⟩
  have hql : qn = q.blocks.length := by rw [hqn, ← hd2, bdat_length]
  rw [← hqn] at hrq0 ⊢
  unfold progV
  have bq1 : Below w2.heap.size w2 (w2.alloc (.cells #[.int .i64 q.args, .int .i64 q.regs, .int .i64 q.data, .int .i64 q.slots, .slice qo qn qc] 25)) := (Below.refl _ _).alloc (Nat.le_refl _) _
  have b3 : Below w.heap.size w (w2.alloc (.cells #[.int .i64 q.args, .int .i64 q.regs, .int .i64 q.data, .int .i64 q.slots, .slice qo qn qc] 25)) := b2.alloc b2.size _
  have rq3 : Row (w2.alloc (.cells #[.int .i64 q.args, .int .i64 q.regs, .int .i64 q.data, .int .i64 q.slots, .slice qo qn qc] 25)) w2.heap.size 25 [.int .i64 q.args, .int .i64 q.regs, .int .i64 q.data, .int .i64 q.slots, .slice qo qn qc] := heap_alloc_new w2 _
  have rp3 := rp2.keep bq1
  have hrp3 := hrp2.keep bq1
  have hrq3 := hrq0.keep bq1
  have HQL := Lib.hid hql
  have HTQ := Lib.hid htq
  have pa := fun o => (rp2.alloc o).cell (i := 0) rfl
  have pd := fun o => (rp2.alloc o).cell (i := 2) rfl
  clear ho2 hd2 hrq0 hb2 hqn hql htq b2 hrp2 bq1
  by_cases hsh : p.args = q.args ∧ p.data = q.data
  case neg =>
    have HF := Lib.hid (HP.out 8 0 (w2.alloc (.cells #[.int .i64 q.args, .int .i64 q.regs, .int .i64 q.data, .int .i64 q.slots, .slice qo qn qc] 25)) (.inr ⟨p, hgp, HTP.out, HPS.out, .inr ⟨q, hgq, HTQ.out, .inl ⟨rfl, rfl, hsh⟩⟩⟩) b3)
    clear b3 rq3 rp3 hrp3 hrq3 HP rp2
    by_cases ha : p.args = q.args
    · have e1 : (p.args == q.args) = true := by rw [beq_iff_eq]; exact ha
      have hdd : ¬ p.data = q.data := fun e => hsh ⟨ha, e⟩
      have e2 : (p.data == q.data) = false := by rw [beq_eq_false_iff_ne]; exact hdd
      have HA := Lib.hid ha
      clear ha hsh
      go_wp2
      exact HF.out
    · have e1 : (p.args == q.args) = false := by rw [beq_eq_false_iff_ne]; exact ha
      clear hsh
      go_wp2
      exact HF.out
  have HSH := Lib.hid hsh
  rw [hsh.1, hsh.2] at rp2 rp3
  clear pa pd
  have pa := fun o => (rp2.alloc o).cell (i := 0) rfl
  have pd := fun o => (rp2.alloc o).cell (i := 2) rfl
  have hc3 := cDecodeHint_any g (w2.alloc (.cells #[.int .i64 q.args, .int .i64 q.regs, .int .i64 q.data, .int .i64 q.slots, .slice qo qn qc] 25)) hgz
  have HB := Lib.hid b3
  have HRP := Lib.hid hrp3
  have HRQ := Lib.hid hrq3
  have HrP := Lib.hid rp3
  have HrQ := Lib.hid rq3
  clear hsh b3 hrp3 hrq3 rp3 rq3 rp2
  go_wp2_with fail
  refine hc3.mono ?_
  clear hc3
  rintro e w3 ⟨hor3, hb3⟩
  have b3 := HB.out.trans (hb3.mono HB.out.size)
  have rp3 := HrP.out.keep hb3
  have rq3 := HrQ.out.keep hb3
  have hrp3 := HRP.out.keep hb3
  have hrq3 := HRQ.out.keep hb3
  clear HB HRP HRQ HrP HrQ pa pd hb3
  have pp0 := fun o => (rp3.alloc o).cell (i := 0) rfl
  have qq0 := fun o => (rq3.alloc o).cell (i := 0) rfl
  have pp1 := fun o => (rp3.alloc o).cell (i := 1) rfl
  have qq1 := fun o => (rq3.alloc o).cell (i := 1) rfl
  have pp2 := fun o => (rp3.alloc o).cell (i := 2) rfl
  have qq2 := fun o => (rq3.alloc o).cell (i := 2) rfl
  have pp3 := fun o => (rp3.alloc o).cell (i := 3) rfl
  have qq3 := fun o => (rq3.alloc o).cell (i := 3) rfl
  have pp4 := fun o => (rp3.alloc o).cell (i := 4) rfl
  have qq4 := fun o => (rq3.alloc o).cell (i := 4) rfl
  rcases hor3 with ⟨v3, hv, rfl, ho3, hgh, hth⟩ | ⟨hn3, rfl⟩
  case inr =>
    have bC : Below w.heap.size w ((w3.alloc (.cells #[.slice none 0 0] 30)).alloc (.cells #[.int .i64 q.args, .int .i64 p.regs, .int .i64 q.data, .int .i64 p.slots, .slice po pn pc, .int .i64 q.args, .int .i64 q.regs, .int .i64 q.data, .int .i64 q.slots, .slice qo qn qc, .slice none 0 0] 120)) := (b3.alloc b3.size _).alloc (by have := b3.size; simp; omega) _
    have HF := Lib.hid (HP.out 2 0 _ (.inr ⟨p, hgp, HTP.out, HPS.out, .inr ⟨q, hgq, HTQ.out, .inr ⟨HSH.out, .inl ⟨rfl, rfl, fun h hg he => absurd he (hn3 h hg)⟩⟩⟩⟩) bC)
    clear b3 hn3 HP rp3 rq3 hrp3 hrq3 bC
    go_wp2
    exact HF.out
  obtain ⟨ho, hc, rfl⟩ := owns_slice ho3.row
  have hrh0 := ho3.rd
  obtain ⟨hn, hhn⟩ : ∃ hn, hn = hv.length := ⟨_, rfl⟩
  rw [← hhn] at hrh0 ⊢
  obtain ⟨h, hh⟩ : ∃ h, h = hdat hv := ⟨_, rfl⟩
  have hhl : hn = h.length := by rw [hhn, hh]; simp [hdat]
  rw [← hh] at hrh0 hgh hth
  have HHL := Lib.hid hhl
  have HTH := Lib.hid hth
  have HONEH : Hid (∀ h', goodHint h' = true → str (hintText h') = g → h' = h) := fun h' hg he => hint_one hg hgh (he.trans hth.symm)
  have bC0 : Below w3.heap.size w3 ((w3.alloc (.cells #[.slice ho hn hc] 30)).alloc (.cells #[.int .i64 q.args, .int .i64 p.regs, .int .i64 q.data, .int .i64 p.slots, .slice po pn pc, .int .i64 q.args, .int .i64 q.regs, .int .i64 q.data, .int .i64 q.slots, .slice qo qn qc, .slice ho hn hc] 120)) := ((Below.refl _ _).alloc (Nat.le_refl _) _).alloc (by simp) _
  have bC : Below w.heap.size w ((w3.alloc (.cells #[.slice ho hn hc] 30)).alloc (.cells #[.int .i64 q.args, .int .i64 p.regs, .int .i64 q.data, .int .i64 p.slots, .slice po pn pc, .int .i64 q.args, .int .i64 q.regs, .int .i64 q.data, .int .i64 q.slots, .slice qo qn qc, .slice ho hn hc] 120)) := b3.trans (bC0.mono b3.size)
  have rc : Row ((w3.alloc (.cells #[.slice ho hn hc] 30)).alloc (.cells #[.int .i64 q.args, .int .i64 p.regs, .int .i64 q.data, .int .i64 p.slots, .slice po pn pc, .int .i64 q.args, .int .i64 q.regs, .int .i64 q.data, .int .i64 q.slots, .slice qo qn qc, .slice ho hn hc] 120)) (w3.heap.size + 1) 120 [.int .i64 q.args, .int .i64 p.regs, .int .i64 q.data, .int .i64 p.slots, .slice po pn pc, .int .i64 q.args, .int .i64 q.regs, .int .i64 q.data, .int .i64 q.slots, .slice qo qn qc, .slice ho hn hc] := heap_alloc2_new w3 _ _
  have hrp4 := hrp3.keep bC0
  have hrq4 := hrq3.keep bC0
  have hrh4 := hrh0.keep bC0
  obtain ⟨hqr, hqa, hqd, hqsl⟩ := good_shape hgq
  have hadd : IntKind.i64.wrap (q.regs + q.slots) = q.regs + q.slots := by rw [IntKind.wrap_i64]; omega
  have qF := fun P' => vFit_cps q.args p.regs q.data p.slots q.args q.regs q.data q.slots po qo ho pn pc qn qc hn hc h ((w3.alloc (.cells #[.slice ho hn hc] 30)).alloc (.cells #[.int .i64 q.args, .int .i64 p.regs, .int .i64 q.data, .int .i64 p.slots, .slice po pn pc, .int .i64 q.args, .int .i64 q.regs, .int .i64 q.data, .int .i64 q.slots, .slice qo qn qc, .slice ho hn hc] 120)) hrh4 hadd P'
  have HB := Lib.hid bC
  have HRC := Lib.hid rc
  have HRP := Lib.hid hrp4
  have HRQ := Lib.hid hrq4
  have HRH := Lib.hid hrh4
  clear ho3 hhn hh hhl hth hrh0 b3 bC0 bC rc hrp3 hrq3 hrp4 hrq4 hrh4 rp3 rq3
  go_wp2_with fail
  refine qF _ ?_
  intro z w4 hz b4
  have HZ := Lib.hid hz
  have b5 := HB.out.trans (b4.mono HB.out.size)
  have rc4 := HRC.out.keep b4
  have hrp5 := HRP.out.keep b4
  have hrq5 := HRQ.out.keep b4
  have hrh5 := HRH.out.keep b4
  clear qF hz HB HRC HRP HRQ HRH b4 pp0 pp1 pp2 pp3 pp4 qq0 qq1 qq2 qq3 qq4
  cases z with
  | false =>
    have HF := Lib.hid (HP.out 2 0 w4 (.inr ⟨p, hgp, HTP.out, HPS.out, .inr ⟨q, hgq, HTQ.out, .inr ⟨HSH.out, .inl ⟨rfl, rfl, fun h' hg he hsu => by
      rw [HONEH.out h' hg he] at hsu
      have := HZ.out.2 ⟨by rw [HQL.out]; exact hsu.1, fun b hb => by rw [HPL.out]; exact hsu.2 b hb⟩
      cases this⟩⟩⟩⟩) b5)
    clear b5 rc4 hrp5 hrq5 hrh5 HP
    go_wp2
    exact HF.out
  | true =>
  have HSU : Hid (suitsD p q h) := by
    have h1 := HZ.out.1 rfl
    rw [HQL.out, HPL.out] at h1
    exact h1
  have hh0 : 0 < h.length := by
    simp only [goodHint, Bool.and_eq_true, decide_eq_true_eq] at hgh
    omega
  have qS := fun P' => vStart_cps q.args p.regs q.data p.slots q.args q.regs q.data q.slots po qo ho pn pc qn qc hn hc h hh0 w4 hrh5 P'
  have oc0 := rc4.cell (i := 0) rfl
  have oc1 := rc4.cell (i := 1) rfl
  have oc2 := rc4.cell (i := 2) rfl
  have oc3 := rc4.cell (i := 3) rfl
  have oc4 := rc4.cell (i := 4) rfl
  have oc5 := rc4.cell (i := 5) rfl
  have oc6 := rc4.cell (i := 6) rfl
  have oc7 := rc4.cell (i := 7) rfl
  have oc8 := rc4.cell (i := 8) rfl
  have oc9 := rc4.cell (i := 9) rfl
  have oc10 := rc4.cell (i := 10) rfl
  have HB := Lib.hid b5
  have HRC := Lib.hid rc4
  have HRP := Lib.hid hrp5
  have HRQ := Lib.hid hrq5
  have HRH := Lib.hid hrh5
  clear b5 rc4 hrp5 hrq5 hrh5 HZ
  go_wp2_with fail
  refine qS _ ?_
  intro z w5 hz b6
  have HZ := Lib.hid hz
  have b7 := HB.out.trans (b6.mono HB.out.size)
  have rc5 := HRC.out.keep b6
  have hrp6 := HRP.out.keep b6
  have hrq6 := HRQ.out.keep b6
  have hrh6 := HRH.out.keep b6
  clear qS hz HB HRC HRP HRQ HRH b6 oc0 oc1 oc2 oc3 oc4 oc5 oc6 oc7 oc8 oc9 oc10
  have HJ : Hid (∀ e n w', JudgedD p q h e n → Below w.heap.size w w' → Post (.returned (.tuple #[.int .i64 e, .int .i64 n])) w') := fun e n w' hj hb' =>
    HP.out e n w' (.inr ⟨p, hgp, HTP.out, HPS.out, .inr ⟨q, hgq, HTQ.out, .inr ⟨HSH.out, .inr ⟨h, hgh, HTH.out, HSU.out, hj⟩⟩⟩⟩) hb'
  have HST : Hid (startsD q h ↔ hsrc h 0 = 0 ∧ ∀ x ∈ hpairs h 0, x.place < q.regs ∧ (x.reg = x.place ∨ (q.args ≤ x.reg ∧ q.args ≤ x.place))) := Iff.rfl
  cases z with
  | false =>
    have HF := Lib.hid (HJ.out 9 0 w5 (.inl ⟨rfl, rfl, fun hq => by have := HZ.out.2 (HST.out.1 hq); cases this⟩) b7)
    clear b7 rc5 hrp6 hrq6 hrh6 HP HJ
    go_wp2
    exact HF.out
  | true =>
  have HSTT : Hid (startsD q h) := HST.out.2 (HZ.out.1 rfl)
  have qB := fun P' => vBlocks_cps p q po qo ho pc qc hc h hgp hgq HPS.out HSU.out hgh w5 (by rw [← HPL.out]; exact hrp6) (by rw [← HQL.out]; exact hrq6) (by rw [← HHL.out]; exact hrh6) (htab.keep b7) P'
  rw [← HPL.out, ← HQL.out, ← HHL.out, HSH.out.1, HSH.out.2] at qB
  have oc0 := rc5.cell (i := 0) rfl
  have oc1 := rc5.cell (i := 1) rfl
  have oc2 := rc5.cell (i := 2) rfl
  have oc3 := rc5.cell (i := 3) rfl
  have oc4 := rc5.cell (i := 4) rfl
  have oc5 := rc5.cell (i := 5) rfl
  have oc6 := rc5.cell (i := 6) rfl
  have oc7 := rc5.cell (i := 7) rfl
  have oc8 := rc5.cell (i := 8) rfl
  have oc9 := rc5.cell (i := 9) rfl
  have oc10 := rc5.cell (i := 10) rfl
  have HB := Lib.hid b7
  clear b7 rc5 hrp6 hrq6 hrh6 HZ
  go_wp2_with fail
  refine qB _ ?_ ?_
  · intro b w6 hb hne hall b8
    have hW := fun c (hc : c < q.blocks.length) => code_is_wrong hgp hgq HPS.out HSU.out hgh hc
    rw [← HQL.out] at hW
    have HF := Lib.hid (HJ.out (codeD p q h b) b w6 (.inr ⟨HSTT.out, .inl ⟨b, by rw [← HQL.out]; exact hb, rfl, hW b hb, hne, fun c hc => by rw [← hW c (by omega)]; exact hall c hc⟩⟩) (HB.out.trans (b8.mono HB.out.size)))
    clear qB hW hne hall b8 HJ HP HB
    generalize codeD p q h b = cd at *
    go_wp2
    exact HF.out
  · intro w6 hall b8
    have hW := fun c (hc : c < q.blocks.length) => code_is_wrong hgp hgq HPS.out HSU.out hgh hc
    rw [← HQL.out] at hW
    have HF := Lib.hid (HJ.out 0 0 w6 (.inr ⟨HSTT.out, .inr ⟨rfl, rfl, fun c hc => by rw [← HQL.out] at hc; rw [← hW c hc]; exact hall c hc⟩⟩) (HB.out.trans (b8.mono HB.out.size)))
    clear qB hW hall b8 HJ HP HB
    go_wp2
    exact HF.out

set_option maxRecDepth 100000 in
set_option maxHeartbeats 1000000 in
theorem tVal_cps (s t g : ByteArray) (w : World) (hs : s.size ≤ maxLen) (ht : t.size ≤ maxLen) (hgz : g.size ≤ maxLen) (htab : TabW w) (Post : Ending → World → Prop)
    (hp : ∀ e n w', ValAns s t g e n → Below w.heap.size w w' → Post (.returned (.tuple #[.int .i64 e, .int .i64 n])) w') :
    Calls Tryz.prog 22 #[.string s, .string t, .string g] w Post := by
  have q := fun P' => vVal_cps s t g w hs ht hgz htab P'
  go_enter Tryz.func22, Tryz.ntmps22
  go_wp2_with fail
  refine q _ ?_
  intro e n w1 ha hb
  have HF := Lib.hid (hp e n w1 ha hb)
  clear q ha hb hp
  go_wp2
  exact HF.out

end Go.Proofs.YtblhmeidbjigaabGreatDoor

/- Are the two, with the hint, well made, and twins (twinkeep.accepted)? -/
set_option linter.unusedSimpArgs false
set_option linter.unusedVariables false
namespace Go.Proofs.YtblhmeidbjigaabGreatDoor
open Go.RowKit

set_option maxRecDepth 100000 in
set_option maxHeartbeats 4000000 in
theorem accepted_cps (p q : ProgD) (h : List PingD) (pv qv hv : Value) (w : World) (hp : RdBlocks w pv p.blocks) (hq : RdBlocks w qv q.blocks) (hh : RdHint w hv h)
    (gp : progGood p = true) (gq : progGood q = true) (gh : goodHint h = true) (htab : TabW w) (hv0 : ValAns (str (progText p)) (str (progText q)) (str (hintText h)) 0 0) (Post : Ending → World → Prop)
    (hpost : ∀ w', Below w.heap.size w w' → Post (.returned (.bool true)) w') :
    Calls Tryz.prog 12 #[.agg #[.int .i64 p.args, .int .i64 p.regs, .int .i64 p.data, .int .i64 p.slots, pv], .agg #[.int .i64 q.args, .int .i64 q.regs, .int .i64 q.data, .int .i64 q.slots, qv], .agg #[hv]] w Post := by
  obtain ⟨po, pc, e0, _, _⟩ := id hp
  subst e0
  obtain ⟨qo, qc, e0, _, _⟩ := id hq
  subst e0
  obtain ⟨ho, hc, e0, _, _⟩ := id hh
  subst e0
  have sp := progText_small gp
  have sq := progText_small gq
  have sh := hintText_small gh
  obtain ⟨wA, hwA⟩ : ∃ x, x = ((w.alloc (.cells #[.int .i64 p.args, .int .i64 p.regs, .int .i64 p.data, .int .i64 p.slots, .slice po p.blocks.length pc] 25)).alloc (.cells #[.int .i64 q.args, .int .i64 q.regs, .int .i64 q.data, .int .i64 q.slots, .slice qo q.blocks.length qc] 25)).alloc (.cells #[.slice ho h.length hc] 30) := ⟨_, rfl⟩
  have b0 : Below w.heap.size w wA := by subst hwA; exact (((Below.refl w.heap.size w).alloc (Nat.le_refl _) _).alloc (by simp) _).alloc (by simp; omega) _
  have rQ : Row wA (w.heap.size + 1) 25 [.int .i64 q.args, .int .i64 q.regs, .int .i64 q.data, .int .i64 q.slots, .slice qo q.blocks.length qc] := by subst hwA; exact Row.alloc (heap_alloc2_new w _ _) _
  have rH : Row wA (w.heap.size + 2) 30 [.slice ho h.length hc] := by
    subst hwA
    have q := heap_alloc2_new (w.alloc (.cells #[.int .i64 p.args, .int .i64 p.regs, .int .i64 p.data, .int .i64 p.slots, .slice po p.blocks.length pc] 25)) (.cells #[.int .i64 q.args, .int .i64 q.regs, .int .i64 q.data, .int .i64 q.slots, .slice qo q.blocks.length qc] 25) (.cells #[.slice ho h.length hc] 30)
    simp only [World.size_alloc] at q
    exact q
  have c1 := kText_any p.args p.regs p.data p.slots _ p.blocks wA (hp.keep b0) gp
  have c2 := fun w2 (b : Below w.heap.size w w2) => kText_any q.args q.regs q.data q.slots _ q.blocks w2 (hq.keep b) gq
  have c3 := fun w2 (b : Below w.heap.size w w2) => kHintText_any _ h w2 (hh.keep b) gh
  have c4 := fun w2 (b : Below w.heap.size w w2) P' => tVal_cps _ _ _ w2 sp sq sh (htab.keep b) P'
  have HV := Lib.hid hv0
  have HP := Lib.hid hpost
  have HB := Lib.hid b0
  have HRQ := Lib.hid rQ
  have HRH := Lib.hid rH
  clear hp hq hh gp gq gh htab hv0 hpost b0 rQ rH sp sq sh
  generalize str (progText p) = S at *
  generalize str (progText q) = T at *
  generalize str (hintText h) = G at *
  subst hwA
  obtain ⟨a0, a1, a2, a3, pb⟩ := p
  obtain ⟨d0, d1, d2, d3, qb⟩ := q
  dsimp only at *
  go_enter Tryz.func12, Tryz.ntmps12
  go_wp2_with fail
  refine c1.mono ?_
  rintro e w1 ⟨rfl, hb⟩
  have b1 := HB.out.trans (hb.mono (by simp; omega))
  have rQ1 := HRQ.out.keep hb
  have HRH1 := Lib.hid (HRH.out.keep hb)
  have x0 := rQ1.cell (i := 0) rfl
  have x1 := rQ1.cell (i := 1) rfl
  have x2 := rQ1.cell (i := 2) rfl
  have x3 := rQ1.cell (i := 3) rfl
  have x4 := rQ1.cell (i := 4) rfl
  have c2' := c2 w1 b1
  have HB1 := Lib.hid b1
  clear c1 c2 hb HB HRQ HRH b1 rQ1
  go_wp2_with fail
  refine c2'.mono ?_
  rintro e w2 ⟨rfl, hb⟩
  have b2 := HB1.out.trans (hb.mono HB1.out.size)
  have rH2 := HRH1.out.keep hb
  have x0 := rH2.cell (i := 0) rfl
  have c3' := c3 w2 b2
  have HB2 := Lib.hid b2
  clear c2' c3 hb HB1 HRH1 b2 rH2 x1 x2 x3 x4
  go_wp2_with fail
  refine c3'.mono ?_
  rintro e w3 ⟨rfl, hb⟩
  have b3 := HB2.out.trans (hb.mono HB2.out.size)
  have c4' := c4 w3 b3
  have HB3 := Lib.hid b3
  clear c3' c4 hb HB2 b3 x0
  go_wp2_with fail
  refine c4' _ ?_
  intro e n w4 hva hb
  obtain ⟨rfl, rfl⟩ := hva.one HV.out
  have HF := Lib.hid (HP.out w4 (HB3.out.trans (hb.mono HB3.out.size)))
  clear c4' hva hb HB3 HP HV
  go_wp2
  exact HF.out

end Go.Proofs.YtblhmeidbjigaabGreatDoor

/- A hint that came in, read. -/
set_option linter.unusedSimpArgs false
set_option linter.unusedVariables false
namespace Go.Proofs.YtblhmeidbjigaabGreatDoor
open Go.RowKit Go.ChangeShapes Go.WideShapes Go.ChangeAt Go.Deep

theorem Tryz.cellsInt : Tryz.prog.cellsOf 3 = 1 := by kernel_rfl
section
variable {H : Type} {enc : TypeId × Value → H} {w : World} {spare : Nat → Bool} {held : Bool}

theorem cells_get {base n : Nat} {a : Addr} {cs : List Value} (h : w.cells? base a n = some cs) : cs.length = n ∧ ∀ i (hi : i < cs.length), w.cell? (a.add i) = some cs[i] := by
  obtain ⟨_, hl, hc⟩ := World.cells?_some h
  refine ⟨hl, fun i hi => ?_⟩
  have := hc i (by omega)
  rw [List.getElem?_eq_getElem hi] at this
  exact this

/-- The address of a slice's first cell, where there is one. -/
theorem addr_lit {a : Addr} {v : Value} (h : w.cell? (a.add 0) = some v) : a = ⟨a.block, a.off, none⟩ := by
  have e : a.add 0 = a := by simp [Addr.add]
  rw [e] at h
  have hs := World.cell?_spot h
  cases a
  simp at hs
  rw [hs]

end

end Go.Proofs.YtblhmeidbjigaabGreatDoor

/- A list of words that came in, read. -/
set_option linter.unusedSimpArgs false
set_option linter.unusedVariables false
namespace Go.Proofs.YtblhmeidbjigaabGreatDoor
open Go.RowKit Go.ChangeShapes Go.WideShapes Go.ChangeAt Go.Deep

theorem Tryz.bytesInt : Tryz.prog.bytesOf 3 = 8 := by kernel_rfl

/-- Words: within 64 bits. -/
def Wide (l : List Int) : Prop := ∀ x ∈ l, -9223372036854775808 ≤ x ∧ x ≤ 9223372036854775807

section
variable {H : Type} {enc : TypeId × Value → H} {w : World} {spare : Nat → Bool} {held : Bool}

theorem open_words {fuel : Nat} {v : Value} {x : DataW H × List MemPlace} (h : DataW.trod enc Tryz.prog w 0 spare held fuel 22 [v] = some x) (hs : ∀ n ∈ x.1.weights Tryz.prog 22, n ≤ reachBytes) :
    ∃ l, RdWords w v l ∧ l.length ≤ 17592186044416 ∧ Wide l := by
  rcases open_slice Tryz.underlying22 h with ⟨e, _⟩ | ⟨a, len, cap, m, n, D, Pl, e, _, hlc, hcm, hm, hx, hel⟩
  · simp at e
    subst e
    exact ⟨[], rdWords_nil w, by simp, fun x hx => by cases hx⟩
  · simp at e
    subst e
    have hlm : len ≤ m := by rw [hm]; split <;> omega
    have key : ∀ i, i < len → ∃ p : Int, w.cell? (a.add i) = some (.int .i64 p) ∧ -9223372036854775808 ≤ p ∧ p ≤ 9223372036854775807 := by
      intro i hi
      obtain ⟨cs', hc, ht⟩ := hel i (by omega)
      rw [Tryz.cellsInt] at hc
      obtain ⟨x0, rfl, _, hwf⟩ := DataW.trod_int Tryz.underlying3 ht
      have := (cells_get hc).2
      refine ⟨x0, ?_, ?_⟩
      · have := this 0 (by simp); simpa [add_add] using this
      · simp only [Lit.wf, Bool.and_eq_true, decide_eq_true_eq] at hwf
        exact ⟨Int.le_trans (by decide) hwf.1, Int.le_trans hwf.2 (by decide)⟩
    obtain ⟨f, hf⟩ := @choose_lt Int ⟨0⟩ len _ key
    have hw : len * 8 ≤ reachBytes := by
      have := hs ((len + (m - len)) * 8) (by rw [hx]; simp [DataW.weights, Tryz.underlying22, Tryz.bytesInt])
      omega
    have hlen : len ≤ 17592186044416 := by unfold reachBytes at hw; omega
    refine ⟨(List.range len).map f, ⟨some a, cap, by simp, by simp; omega, fun i hi => ?_⟩, by simpa using hlen, ?_⟩
    · have hi' : i < len := by simpa using hi
      obtain ⟨c1, _⟩ := hf i hi'
      have ha := addr_lit (by simpa using (hf 0 (by omega)).1)
      rw [ha, Addr.add_lit] at c1
      refine ⟨a.block, a.off, by rw [← ha], ?_⟩
      rw [c1]; simp [List.getD, hi']
    · intro x hx
      obtain ⟨i, hi, rfl⟩ := List.mem_map.1 hx
      exact (hf i (by simpa using hi)).2

set_option maxRecDepth 100000 in
theorem open_words_arg {v : Value} {d : DataW H} {p : List MemPlace} {r : Reach} {b0 : Nat} (hv : Value.okWide Tryz.prog w r b0 22 v) (h : DataW.Trod enc Tryz.prog w 0 spare held 22 v d p) (hs : ∀ n ∈ d.weights Tryz.prog 22, n ≤ reachBytes) :
    ∃ l, RdWords w v l ∧ l.length ≤ 17592186044416 ∧ Wide l := by
  obtain ⟨a, len, cap, rfl⟩ := okWide_slice Tryz.underlying22 hv
  obtain ⟨fuel, hf⟩ := h
  exact open_words (x := (d, p)) (by simpa [Value.cells] using hf) hs

end

end Go.Proofs.YtblhmeidbjigaabGreatDoor

/- twinkeep.Same: a source is its own twin. -/
set_option linter.unusedSimpArgs false
set_option linter.unusedVariables false
namespace Go.Proofs.YtblhmeidbjigaabGreatDoor
open Go.RowKit Go.Deep

theorem RdWords.rawI {w : World} {v : Value} {l : List Int} (h : RdWords w v l) (hw : Wide l) : RdInts w v l.length := by
  obtain ⟨ao, cap, rfl, hl, hc⟩ := h
  refine ⟨ao, cap, rfl, hl, fun i hi => ?_⟩
  obtain ⟨b, off, e, h1⟩ := hc i hi
  have hm : l.getD i 0 ∈ l := getD_mem' hi
  exact ⟨b, off, _, e, (hw _ hm).1, (hw _ hm).2, h1⟩

theorem bdat_ops {bv : List (BlockD × Value)} {n : Int} (h : ∀ x ∈ bv, (x.1.ops.length : Int) ≤ n) : ∀ b, b < (bdat bv).length → ((bops (bdat bv) b).length : Int) ≤ n := by
  intro b hb
  have hb' : b < bv.length := by simpa [bdat] using hb
  have := h bv[b] (List.getElem_mem hb')
  simpa [bops, bdat, List.getD, hb'] using this

set_option maxRecDepth 100000 in
set_option maxHeartbeats 4000000 in
theorem same_cps (ao : Option Addr) (n cap : Nat) (w : World) (hraw : RdInts w (.slice ao n cap) n) (htab : TabW w) (Post : Ending → World → Prop)
    (hp : ∀ w', Below w.heap.size w w' → Post (.returned (.bool true)) w') :
    Calls Tryz.prog 20 #[.slice ao n cap] w Post := by
  have q1 := fun P' => built_cps ao n cap 1 8 7 w (by omega) (by omega) (by omega) hraw P'
  have HP := Lib.hid hp
  clear hp
  go_enter Tryz.func20, Tryz.ntmps20
  go_wp2_with fail
  refine q1 _ ?_
  intro a0 a1 a2 v bv w1 gp hl1 hl2 hops ho hb1
  obtain ⟨bo, bc, rfl⟩ := owns_slice ho.row
  have hlen : bv.length ≤ 6 := by
    have := gp
    simp only [progGood, Bool.and_eq_true, decide_eq_true_eq, bdat_length] at this
    omega
  have hbA : Below w1.heap.size w1 (w1.alloc (.cells #[.int .i64 a0, .int .i64 a1, .int .i64 a2, .int .i64 0, .slice bo bv.length bc] 25)) := (Below.refl _ _).alloc (Nat.le_refl _) _
  have rA : Row (w1.alloc (.cells #[.int .i64 a0, .int .i64 a1, .int .i64 a2, .int .i64 0, .slice bo bv.length bc] 25)) w1.heap.size 25 [.int .i64 a0, .int .i64 a1, .int .i64 a2, .int .i64 0, .slice bo bv.length bc] := heap_alloc_new w1 _
  have hrd := OwnBlocks.rd ho
  have HG := Lib.hid gp
  have HT : Hid (ValAns (str (progText ⟨a0, a1, a2, 0, bdat bv⟩)) (str (progText ⟨a0, a1, a2, 0, bdat bv⟩)) (str (hintText (idHint ⟨a0, a1, a2, 0, bdat bv⟩))) 0 0) := self_twin gp rfl (fun b hb => by have := bdat_ops hops b hb; show (bops (bdat bv) b).length ≤ 7; omega)
  have HGH : Hid (goodHint (idHint ⟨a0, a1, a2, 0, bdat bv⟩) = true) := idHint_good gp
  have q2 := fun P' => identity_cps a0 a1 a2 0 bo bv.length bc (w1.alloc (.cells #[.int .i64 a0, .int .i64 a1, .int .i64 a2, .int .i64 0, .slice bo bv.length bc] 25)) (by omega) hl2 hlen P'
  have HB1 := Lib.hid hb1
  have HRD := Lib.hid hrd
  have HRA := Lib.hid rA
  have HBA := Lib.hid hbA
  have HTB := Lib.hid htab
  clear q1 gp hops ho hb1 hrd rA hbA hraw htab
  go_wp2_with fail
  refine q2 _ ?_
  intro v hv w2 hd hoh hb2
  obtain ⟨ho', hc', rfl⟩ := owns_slice hoh.row
  have hlv : hv.length = bv.length := by
    have := congrArg List.length hd.out
    simpa [hdat, idPings] using this
  have e12 : Below w1.heap.size w1 w2 := HBA.out.trans (hb2.mono (by simp))
  have b2 : Below w.heap.size w w2 := HB1.out.trans (e12.mono HB1.out.size)
  have rA2 := HRA.out.keep hb2
  have rd2 := HRD.out.keep e12
  have rh2 := OwnHint.rd hoh
  rw [hd.out] at rh2
  have hid : idPings bv.length a1.toNat = idHint ⟨a0, a1, a2, 0, bdat bv⟩ := by rw [idHint_pings]; simp [bdat_length]
  rw [hid] at rh2
  have hbC : Below w2.heap.size w2 (w2.alloc (.cells #[.slice ho' hv.length hc'] 30)) := (Below.refl _ _).alloc (Nat.le_refl _) _
  have b3 : Below w.heap.size w (w2.alloc (.cells #[.slice ho' hv.length hc'] 30)) := b2.trans (hbC.mono b2.size)
  have q3 := fun P' => accepted_cps ⟨a0, a1, a2, 0, bdat bv⟩ ⟨a0, a1, a2, 0, bdat bv⟩ _ (.slice bo bv.length bc) (.slice bo bv.length bc) (.slice ho' hv.length hc') (w2.alloc (.cells #[.slice ho' hv.length hc'] 30)) (rd2.keep hbC) (rd2.keep hbC) (rh2.keep hbC) HG.out HG.out HGH.out (HTB.out.keep b3) HT.out P'
  have x0 := rA2.cell (i := 0) rfl
  have x1 := rA2.cell (i := 1) rfl
  have x2 := rA2.cell (i := 2) rfl
  have x3 := rA2.cell (i := 3) rfl
  have x4 := rA2.cell (i := 4) rfl
  have hzl : w1.heap.size < w2.heap.size := by have := rA2.lt; omega
  have HB3 := Lib.hid b3
  clear q2 hd hoh hb2 e12 b2 rA2 rd2 rh2 hbC b3 HB1 HRD HRA HBA HTB HG HT HGH hlv hid
  go_wp2_with fail
  refine q3 _ ?_
  intro w4 hb4
  have HF := Lib.hid (HP.out w4 (HB3.out.trans (hb4.mono HB3.out.size)))
  clear q3 hb4 HB3 HP x0 x1 x2 x3 x4
  go_wp2
  exact HF.out

end Go.Proofs.YtblhmeidbjigaabGreatDoor

/- Run in package machine. -/
set_option linter.unusedSimpArgs false
set_option linter.unusedVariables false
namespace Go.Proofs.YtblhmeidbjigaabGreatDoor
open Go.RowKit

set_option maxRecDepth 100000 in
set_option maxHeartbeats 2000000 in
theorem mRun_cps (s : ByteArray) (av mv sv : Value) (args mem spill : List Int) (fuel : Int) (w : World) (ha : RdWords w av args) (hm : RdWords w mv mem) (hsp : RdWords w sv spill) (hs : s.size ≤ maxLen) (Post : Ending → World → Prop)
    (hp : ∀ o e mv lv w', RunAns s args mem spill fuel o e → RunOut w w' o mv lv → Post (.returned (.tuple #[.agg #[.int .i64 o.kind, .int .i64 o.result, mv, lv], .int .i64 e])) w') :
    Calls Tryz.prog 36 #[.string s, .agg #[av, mv, sv], .int .i64 fuel] w Post := by
  obtain ⟨ao, ac, rfl, hal, _⟩ := id ha
  obtain ⟨mo, mc, rfl, hml, _⟩ := id hm
  obtain ⟨so, sc, rfl, hsl, _⟩ := id hsp
  have hc := cDecode_any s ((w.alloc (.cells #[.slice ao args.length ac, .slice mo mem.length mc, .slice so spill.length sc] 67)).alloc (.cells #[.int .i64 0, .int .i64 0, .slice none 0 0, .slice none 0 0] 63)) hs
  have rI : Row ((w.alloc (.cells #[.slice ao args.length ac, .slice mo mem.length mc, .slice so spill.length sc] 67)).alloc (.cells #[.int .i64 0, .int .i64 0, .slice none 0 0, .slice none 0 0] 63)) w.heap.size 67 [.slice ao args.length ac, .slice mo mem.length mc, .slice so spill.length sc] := by
    have q : Row (w.alloc (.cells #[.slice ao args.length ac, .slice mo mem.length mc, .slice so spill.length sc] 67)) w.heap.size 67 [.slice ao args.length ac, .slice mo mem.length mc, .slice so spill.length sc] := heap_alloc_new w _
    exact q.alloc _
  have rO : Row ((w.alloc (.cells #[.slice ao args.length ac, .slice mo mem.length mc, .slice so spill.length sc] 67)).alloc (.cells #[.int .i64 0, .int .i64 0, .slice none 0 0, .slice none 0 0] 63)) (w.heap.size + 1) 63 zOut := heap_alloc2_new w _ _
  have hbW : Below w.heap.size w ((w.alloc (.cells #[.slice ao args.length ac, .slice mo mem.length mc, .slice so spill.length sc] 67)).alloc (.cells #[.int .i64 0, .int .i64 0, .slice none 0 0, .slice none 0 0] 63)) := ((Below.refl w.heap.size w).alloc (Nat.le_refl _) _).alloc (by simp) _
  go_enter Tryz.func36, Tryz.ntmps36
  go_wp2_with fail
  refine hc.mono ?_
  clear hc
  rintro e w1 ⟨hor, hb1⟩
  have rI1 := rI.keep hb1
  have rO1 := rO.keep hb1
  have hb01 := hbW.trans (hb1.mono (by simp; omega))
  have hz1 : w.heap.size + 2 ≤ w1.heap.size := by have := hb1.size; simp at this; omega
  clear rI rO hbW
  rcases hor with ⟨⟨a0, a1, a2, a3, l⟩, v, bv, rfl, ho, hd, hg, ht⟩ | ⟨hn, rfl⟩
  · simp only at hd
    obtain ⟨bo, bc, rfl⟩ := owns_slice ho.row
    unfold progV
    simp only
    have ho2 := ho.alloc (.cells #[.int .i64 a0, .int .i64 a1, .int .i64 a2, .int .i64 a3, .slice bo bv.length bc] 25)
    have rI2 := rI1.alloc (.cells #[.int .i64 a0, .int .i64 a1, .int .i64 a2, .int .i64 a3, .slice bo bv.length bc] 25)
    have rO2 := rO1.alloc (.cells #[.int .i64 a0, .int .i64 a1, .int .i64 a2, .int .i64 a3, .slice bo bv.length bc] 25)
    have rP2 : Row (w1.alloc (.cells #[.int .i64 a0, .int .i64 a1, .int .i64 a2, .int .i64 a3, .slice bo bv.length bc] 25)) w1.heap.size 25 [.int .i64 a0, .int .i64 a1, .int .i64 a2, .int .i64 a3, .slice bo bv.length bc] := heap_alloc_new w1 _
    have hb02 := hb01.alloc (show w.heap.size ≤ w1.heap.size by omega) (.cells #[.int .i64 a0, .int .i64 a1, .int .i64 a2, .int .i64 a3, .slice bo bv.length bc] 25)
    clear ho rI1 rO1 hb01 hb1
    have i0 := rI2.cell (i := 0) rfl
    have i1 := rI2.cell (i := 1) rfl
    have i2 := rI2.cell (i := 2) rfl
    have p0 := rP2.cell (i := 0) rfl
    have p1 := rP2.cell (i := 1) rfl
    have p2 := rP2.cell (i := 2) rfl
    have p3 := rP2.cell (i := 3) rfl
    have p4 := rP2.cell (i := 4) rfl
    have y0 := rO2.cell (i := 0) rfl
    have y1 := rO2.cell (i := 1) rfl
    have y2 := rO2.cell (i := 2) rfl
    have y3 := rO2.cell (i := 3) rfl
    have f0 := rO2.frozen 0
    have f1 := rO2.frozen 1
    have f2 := rO2.frozen 2
    have f3 := rO2.frozen 3
    by_cases h0 : (args.length : Int) = a0
    case neg =>
      have e0 : ((args.length : Int) == a0) = false := by simp [h0]
      have hfin := hp outZ 3 (.slice none 0 0) (.slice none 0 0) (out4 (w1.alloc (.cells #[.int .i64 a0, .int .i64 a1, .int .i64 a2, .int .i64 a3, .slice bo bv.length bc] 25)) (w.heap.size + 1) 0 0 (.slice none 0 0) (.slice none 0 0)) (.inr ⟨⟨a0, a1, a2, a3, l⟩, hg, ht, .inl ⟨rfl, rfl, fun c => h0 c.1⟩⟩) (runOut_nil (out4_below hb02 (by omega) _ _ _ _))
      have HF : Hid (Post (.returned (.tuple #[.agg #[.int .i64 0, .int .i64 0, .slice none 0 0, .slice none 0 0], .int .i64 3])) (out4 (w1.alloc (.cells #[.int .i64 a0, .int .i64 a1, .int .i64 a2, .int .i64 a3, .slice bo bv.length bc] 25)) (w.heap.size + 1) 0 0 (.slice none 0 0) (.slice none 0 0))) := hfin
      clear hfin hp ho2 rI2 rO2 rP2 hb02
      unfold out4 at HF
      go_wp2
      (try simp only [Exit.inBlock, Exit.then])
      refine bodyPost_ret (v := .tuple #[.agg #[.int .i64 0, .int .i64 0, .slice none 0 0, .slice none 0 0], .int .i64 3]) ?_ rfl ?_
      · simp [results, Tryz.results36, go_sem, y0, y1, y2, y3]
      · exact HF.out
    by_cases h2 : (mem.length : Int) = a2
    case neg =>
      have e0 : ((args.length : Int) == a0) = true := by simp [h0]
      have e2 : ((mem.length : Int) == a2) = false := by simp [h2]
      have hfin := hp outZ 3 (.slice none 0 0) (.slice none 0 0) (out4 (w1.alloc (.cells #[.int .i64 a0, .int .i64 a1, .int .i64 a2, .int .i64 a3, .slice bo bv.length bc] 25)) (w.heap.size + 1) 0 0 (.slice none 0 0) (.slice none 0 0)) (.inr ⟨⟨a0, a1, a2, a3, l⟩, hg, ht, .inl ⟨rfl, rfl, fun c => h2 c.2.1⟩⟩) (runOut_nil (out4_below hb02 (by omega) _ _ _ _))
      have HF : Hid (Post (.returned (.tuple #[.agg #[.int .i64 0, .int .i64 0, .slice none 0 0, .slice none 0 0], .int .i64 3])) (out4 (w1.alloc (.cells #[.int .i64 a0, .int .i64 a1, .int .i64 a2, .int .i64 a3, .slice bo bv.length bc] 25)) (w.heap.size + 1) 0 0 (.slice none 0 0) (.slice none 0 0))) := hfin
      clear hfin hp ho2 rI2 rO2 rP2 hb02
      unfold out4 at HF
      go_wp2
      (try simp only [Exit.inBlock, Exit.then])
      refine bodyPost_ret (v := .tuple #[.agg #[.int .i64 0, .int .i64 0, .slice none 0 0, .slice none 0 0], .int .i64 3]) ?_ rfl ?_
      · simp [results, Tryz.results36, go_sem, y0, y1, y2, y3]
      · exact HF.out
    by_cases h3 : (spill.length : Int) = a3
    case neg =>
      have e0 : ((args.length : Int) == a0) = true := by simp [h0]
      have e2 : ((mem.length : Int) == a2) = true := by simp [h2]
      have e3 : ((spill.length : Int) == a3) = false := by simp [h3]
      have hfin := hp outZ 3 (.slice none 0 0) (.slice none 0 0) (out4 (w1.alloc (.cells #[.int .i64 a0, .int .i64 a1, .int .i64 a2, .int .i64 a3, .slice bo bv.length bc] 25)) (w.heap.size + 1) 0 0 (.slice none 0 0) (.slice none 0 0)) (.inr ⟨⟨a0, a1, a2, a3, l⟩, hg, ht, .inl ⟨rfl, rfl, fun c => h3 c.2.2⟩⟩) (runOut_nil (out4_below hb02 (by omega) _ _ _ _))
      have HF : Hid (Post (.returned (.tuple #[.agg #[.int .i64 0, .int .i64 0, .slice none 0 0, .slice none 0 0], .int .i64 3])) (out4 (w1.alloc (.cells #[.int .i64 a0, .int .i64 a1, .int .i64 a2, .int .i64 a3, .slice bo bv.length bc] 25)) (w.heap.size + 1) 0 0 (.slice none 0 0) (.slice none 0 0))) := hfin
      clear hfin hp ho2 rI2 rO2 rP2 hb02
      unfold out4 at HF
      go_wp2
      (try simp only [Exit.inBlock, Exit.then])
      refine bodyPost_ret (v := .tuple #[.agg #[.int .i64 0, .int .i64 0, .slice none 0 0, .slice none 0 0], .int .i64 3]) ?_ rfl ?_
      · simp [results, Tryz.results36, go_sem, y0, y1, y2, y3]
      · exact HF.out
    subst h0 h2 h3
    by_cases hf0 : fuel < 0
    · have hfin := hp outZ 4 (.slice none 0 0) (.slice none 0 0) (out4 (w1.alloc (.cells #[.int .i64 args.length, .int .i64 a1, .int .i64 mem.length, .int .i64 spill.length, .slice bo bv.length bc] 25)) (w.heap.size + 1) 0 0 (.slice none 0 0) (.slice none 0 0)) (.inr ⟨⟨args.length, a1, mem.length, spill.length, l⟩, hg, ht, .inr (.inl ⟨rfl, rfl, ⟨rfl, rfl, rfl⟩, fun c => by omega⟩)⟩) (runOut_nil (out4_below hb02 (by omega) _ _ _ _))
      have HF : Hid (Post (.returned (.tuple #[.agg #[.int .i64 0, .int .i64 0, .slice none 0 0, .slice none 0 0], .int .i64 4])) (out4 (w1.alloc (.cells #[.int .i64 args.length, .int .i64 a1, .int .i64 mem.length, .int .i64 spill.length, .slice bo bv.length bc] 25)) (w.heap.size + 1) 0 0 (.slice none 0 0) (.slice none 0 0))) := hfin
      clear hfin hp ho2 rI2 rO2 rP2 hb02
      unfold out4 at HF
      go_wp2
      (try simp only [Exit.inBlock, Exit.then])
      refine bodyPost_ret (v := .tuple #[.agg #[.int .i64 0, .int .i64 0, .slice none 0 0, .slice none 0 0], .int .i64 4]) ?_ rfl ?_
      · simp [results, Tryz.results36, go_sem, y0, y1, y2, y3]
      · exact HF.out
    by_cases hf1 : 300 < fuel
    · have hfin := hp outZ 4 (.slice none 0 0) (.slice none 0 0) (out4 (w1.alloc (.cells #[.int .i64 args.length, .int .i64 a1, .int .i64 mem.length, .int .i64 spill.length, .slice bo bv.length bc] 25)) (w.heap.size + 1) 0 0 (.slice none 0 0) (.slice none 0 0)) (.inr ⟨⟨args.length, a1, mem.length, spill.length, l⟩, hg, ht, .inr (.inl ⟨rfl, rfl, ⟨rfl, rfl, rfl⟩, fun c => by omega⟩)⟩) (runOut_nil (out4_below hb02 (by omega) _ _ _ _))
      have HF : Hid (Post (.returned (.tuple #[.agg #[.int .i64 0, .int .i64 0, .slice none 0 0, .slice none 0 0], .int .i64 4])) (out4 (w1.alloc (.cells #[.int .i64 args.length, .int .i64 a1, .int .i64 mem.length, .int .i64 spill.length, .slice bo bv.length bc] 25)) (w.heap.size + 1) 0 0 (.slice none 0 0) (.slice none 0 0))) := hfin
      clear hfin hp ho2 rI2 rO2 rP2 hb02
      unfold out4 at HF
      go_wp2
      (try simp only [Exit.inBlock, Exit.then])
      refine bodyPost_ret (v := .tuple #[.agg #[.int .i64 0, .int .i64 0, .slice none 0 0, .slice none 0 0], .int .i64 4]) ?_ rfl ?_
      · simp [results, Tryz.results36, go_sem, y0, y1, y2, y3]
      · exact HF.out
    obtain ⟨fu, rfl⟩ := Int.eq_ofNat_of_zero_le (show 0 ≤ fuel by omega)
    have hgg := hg
    simp only [progGood, Bool.and_eq_true, decide_eq_true_eq] at hgg
    obtain ⟨⟨⟨⟨⟨g1, g2⟩, g3⟩, g4⟩, g5⟩, g6⟩ := hgg
    have hans : RunAns s args mem spill fu (runN l fu 0 (begins ⟨args.length, a1, mem.length, spill.length, l⟩ args mem spill)) 0 := .inr ⟨⟨args.length, a1, mem.length, spill.length, l⟩, hg, ht, .inr (.inr ⟨rfl, ⟨rfl, rfl, rfl⟩, by omega, by simp⟩)⟩
    have hsz := begins_sized (args := args) (mem := mem) (spill := spill) hg ⟨rfl, rfl, rfl⟩
    have hal' := ha.keep hb02
    have hml' := hm.keep hb02
    have hsl' := hsp.keep hb02
    have hrd := OwnBlocks.rd ho2
    rw [hd] at hrd
    obtain ⟨W2, hW2⟩ : ∃ W2, W2 = w1.alloc (.cells #[.int .i64 args.length, .int .i64 a1, .int .i64 mem.length, .int .i64 spill.length, .slice bo bv.length bc] 25) := ⟨_, rfl⟩
    rw [← hW2] at hrd hal' hml' hsl' hb02 rI2 rO2 rP2
    have hz2 : w.heap.size + 3 ≤ W2.heap.size := by rw [hW2]; simp; omega
    clear hg ht ho2 ha hm hsp
    go_wp2_with fail
    rw [← hW2]
    clear hW2 i0 i1 i2 p0 p1 p2 p3 p4 y0 y1 y2 y3 f0 f1 f2 f3
    refine begin_cps a1 mem.length spill.length _ _ _ _ args mem spill W2 hal' hml' hsl' (by omega) (by omega) (by omega) (by omega) ⟨_, _, _, rfl⟩ _ ?_
    intro rv cv sv w3 hB hb3
    obtain ⟨ro, rc, rfl⟩ := owns_slice hB.regs
    obtain ⟨co, cc, rfl⟩ := owns_slice hB.cells
    obtain ⟨so', sc', rfl⟩ := owns_slice hB.slots
    have hz3 := hb3.size
    have hall := (Below.refl w3.heap.size w3).alloc (Nat.le_refl _) (.cells #[.slice ro (regs0 args (a1 - args.length).toNat).length rc, .slice co mem.length cc, .slice so' spill.length sc', .slice none 0 0, .int .i64 0] 126)
    have hM : Mach (fun g => g < W2.heap.size) (w3.alloc (.cells #[.slice ro (regs0 args (a1 - args.length).toNat).length rc, .slice co mem.length cc, .slice so' spill.length sc', .slice none 0 0, .int .i64 0] 126)) w3.heap.size (begins ⟨args.length, a1, mem.length, spill.length, l⟩ args mem spill) :=
      ⟨_, _, _, _, heap_alloc_new w3 _, hB.keep hall, fun c => by omega⟩
    have hb4 : Below W2.heap.size W2 (w3.alloc (.cells #[.slice ro (regs0 args (a1 - args.length).toNat).length rc, .slice co mem.length cc, .slice so' spill.length sc', .slice none 0 0, .int .i64 0] 126)) := hb3.trans (hall.mono (by omega))
    have p4 := (rP2.keep hb4).cell (i := 4) rfl
    have hlz : (begins ⟨args.length, a1, mem.length, spill.length, l⟩ args mem spill).leak = [] := rfl
    have htz : (begins ⟨args.length, a1, mem.length, spill.length, l⟩ args mem spill).trap = 0 := rfl
    generalize begins ⟨args.length, a1, mem.length, spill.length, l⟩ args mem spill = S0 at *
    generalize (regs0 args (a1 - args.length).toNat).length = nr at *
    clear hB hall hal' hml' hsl'
    obtain ⟨w4, hw4⟩ : ∃ w4, w4 = w3.alloc (.cells #[.slice ro nr rc, .slice co mem.length cc, .slice so' spill.length sc', .slice none 0 0, .int .i64 0] 126) := ⟨_, rfl⟩
    rw [← hw4] at hM hb4
    have hz4 := hb4.size
    go_wp2_with fail
    rw [← hw4]
    clear hw4 p4
    refine run_cps (fun g => g < W2.heap.size) w3.heap.size S0 l _ fu a1 mem.length spill.length W2 w4 hM (by omega) hlz htz hsz g6 (by omega) hrd (fun g h => h) hb4 _ ?_
    intro mv' lv' w5 own1 own2 ap k1 k2 hk5
    have hb5 := hb4.trans (hk5.toBelow hz4 (fun g hn => by omega))
    have rO5 := rO2.keep hb5
    have hb05 := hb02.trans (hb5.mono (by omega))
    have hz5 := hb5.size
    generalize runN l fu 0 S0 = G at *
    have hfin := hp G 0 mv' lv' (out4 w5 (w.heap.size + 1) G.kind G.result mv' lv') hans
      ⟨owns_rebase (OwnW.out4 own1 rO5 _ _ _ _) (fun g e => by have := k1 g e; omega), owns_rebase (OwnW.out4 own2 rO5 _ _ _ _) (fun g e => by have := k2 g e; omega), ap, out4_below hb05 (by omega) _ _ _ _⟩
    obtain ⟨mo', mc', rfl⟩ := owns_slice own1
    obtain ⟨lo', lc', rfl⟩ := owns_slice own2
    have HF : Hid (Post (.returned (.tuple #[.agg #[.int .i64 G.kind, .int .i64 G.result, .slice mo' G.mem.length mc', .slice lo' G.leak.length lc'], .int .i64 0])) (out4 w5 (w.heap.size + 1) G.kind G.result (.slice mo' G.mem.length mc') (.slice lo' G.leak.length lc'))) := hfin
    have y0 := rO5.cell (i := 0) rfl
    have y1 := rO5.cell (i := 1) rfl
    have y2 := rO5.cell (i := 2) rfl
    have y3 := rO5.cell (i := 3) rfl
    have f0 := rO5.frozen 0
    have f1 := rO5.frozen 1
    have f2 := rO5.frozen 2
    have f3 := rO5.frozen 3
    clear hfin hp own1 own2 ap k1 k2 hk5 hb5 rO5 hb05 hM hb4 rP2 rI2 rO2 hrd hans
    unfold out4 at HF
    go_wp2
    (try simp only [Exit.inBlock, Exit.then])
    refine bodyPost_ret (v := .tuple #[.agg #[.int .i64 G.kind, .int .i64 G.result, .slice mo' G.mem.length mc', .slice lo' G.leak.length lc'], .int .i64 0]) ?_ rfl ?_
    · simp [results, Tryz.results36, go_sem, y0, y1, y2, y3]
    · exact HF.out
  · clear hs
    have rO2 := rO1.alloc (.cells #[.int .i64 0, .int .i64 0, .int .i64 0, .int .i64 0, .slice none 0 0] 25)
    have hb02 := hb01.alloc (show w.heap.size ≤ w1.heap.size by omega) (.cells #[.int .i64 0, .int .i64 0, .int .i64 0, .int .i64 0, .slice none 0 0] 25)
    have y0 := rO2.cell (i := 0) rfl
    have y1 := rO2.cell (i := 1) rfl
    have y2 := rO2.cell (i := 2) rfl
    have y3 := rO2.cell (i := 3) rfl
    have f0 := rO2.frozen 0
    have f1 := rO2.frozen 1
    have f2 := rO2.frozen 2
    have f3 := rO2.frozen 3
    have hfin := hp outZ 1 (.slice none 0 0) (.slice none 0 0) (out4 (w1.alloc (.cells #[.int .i64 0, .int .i64 0, .int .i64 0, .int .i64 0, .slice none 0 0] 25)) (w.heap.size + 1) 0 0 (.slice none 0 0) (.slice none 0 0)) (.inl ⟨rfl, rfl, hn⟩) (runOut_nil (out4_below hb02 (by omega) _ _ _ _))
    have HF : Hid (Post (.returned (.tuple #[.agg #[.int .i64 0, .int .i64 0, .slice none 0 0, .slice none 0 0], .int .i64 1])) (out4 (w1.alloc (.cells #[.int .i64 0, .int .i64 0, .int .i64 0, .int .i64 0, .slice none 0 0] 25)) (w.heap.size + 1) 0 0 (.slice none 0 0) (.slice none 0 0))) := hfin
    clear hfin hp rI1 rO1 rO2 hb01 hb02 hb1 hn
    unfold out4 at HF
    go_wp2
    (try simp only [Exit.inBlock, Exit.then])
    refine bodyPost_ret (v := .tuple #[.agg #[.int .i64 0, .int .i64 0, .slice none 0 0, .slice none 0 0], .int .i64 1]) ?_ rfl ?_
    · simp [results, Tryz.results36, go_sem, y0, y1, y2, y3]
    · exact HF.out

end Go.Proofs.YtblhmeidbjigaabGreatDoor

/- Run in package twin. -/
set_option linter.unusedSimpArgs false
set_option linter.unusedVariables false
namespace Go.Proofs.YtblhmeidbjigaabGreatDoor
open Go.RowKit

theorem RunOut.set4 {w w0 w' : World} {o : OutD} {mv lv : Value} (h : RunOut w0 w' o mv lv) (hb : Below w.heap.size w w0) {R : Nat} {xs : List Value} (hr : Row w' R 63 xs) (hR : w.heap.size ≤ R) (k r : Int) (m l : Value) : RunOut w (out4 w' R k r m l) o mv lv :=
  ⟨owns_base (owns_rebase (OwnW.out4 (owns_base h.mem (Nat.zero_le _)) hr _ _ _ _) (fun g e => (h.mem.lt g e).1)) hb.size, owns_base (owns_rebase (OwnW.out4 (owns_base h.leak (Nat.zero_le _)) hr _ _ _ _) (fun g e => (h.leak.lt g e).1)) hb.size, h.apart,
    out4_below (hb.trans (h.below.mono hb.size)) hR _ _ _ _⟩

set_option maxRecDepth 100000 in
set_option maxHeartbeats 2000000 in
theorem tRun_cps (s : ByteArray) (av mv sv : Value) (args mem spill : List Int) (fuel : Int) (w : World) (ha : RdWords w av args) (hm : RdWords w mv mem) (hsp : RdWords w sv spill) (hs : s.size ≤ maxLen) (Post : Ending → World → Prop)
    (hp : ∀ o e mv lv w', RunAns s args mem spill fuel o e → RunOut w w' o mv lv → Post (.returned (.tuple #[.agg #[.int .i64 o.kind, .int .i64 o.result, mv, lv], .int .i64 e])) w') :
    Calls Tryz.prog 24 #[.string s, .agg #[av, mv, sv], .int .i64 fuel] w Post := by
  obtain ⟨ao, ac, rfl, hal, _⟩ := id ha
  obtain ⟨mo, mc, rfl, hml, _⟩ := id hm
  obtain ⟨so, sc, rfl, hsl, _⟩ := id hsp
  have rO : Row ((w.alloc (.cells #[.slice ao args.length ac, .slice mo mem.length mc, .slice so spill.length sc] 67)).alloc (.cells #[.int .i64 0, .int .i64 0, .slice none 0 0, .slice none 0 0] 63)) (w.heap.size + 1) 63 zOut := heap_alloc2_new w _ _
  have hbW : Below w.heap.size w ((w.alloc (.cells #[.slice ao args.length ac, .slice mo mem.length mc, .slice so spill.length sc] 67)).alloc (.cells #[.int .i64 0, .int .i64 0, .slice none 0 0, .slice none 0 0] 63)) := ((Below.refl w.heap.size w).alloc (Nat.le_refl _) _).alloc (by simp) _
  go_enter Tryz.func24, Tryz.ntmps24
  go_wp2_with fail
  refine mRun_cps s _ _ _ args mem spill fuel _ (ha.keep hbW) (hm.keep hbW) (hsp.keep hbW) hs _ ?_
  intro o e mv' lv' w1 hans hout
  have rO1 := rO.keep hout.below
  have ho := hout.set4 hbW rO1 (by omega) o.kind o.result mv' lv'
  have hfin := hp o e mv' lv' _ hans ho
  obtain ⟨mo', mc', rfl⟩ := owns_slice hout.mem
  obtain ⟨lo', lc', rfl⟩ := owns_slice hout.leak
  have HF : Hid (Post (.returned (.tuple #[.agg #[.int .i64 o.kind, .int .i64 o.result, .slice mo' o.mem.length mc', .slice lo' o.leak.length lc'], .int .i64 e])) (out4 w1 (w.heap.size + 1) o.kind o.result (.slice mo' o.mem.length mc') (.slice lo' o.leak.length lc'))) := hfin
  have y0 := rO1.cell (i := 0) rfl
  have y1 := rO1.cell (i := 1) rfl
  have y2 := rO1.cell (i := 2) rfl
  have y3 := rO1.cell (i := 3) rfl
  have f0 := rO1.frozen 0
  have f1 := rO1.frozen 1
  have f2 := rO1.frozen 2
  have f3 := rO1.frozen 3
  clear hfin hp hans hout ho rO rO1 hbW ha hm hsp
  unfold out4 at HF
  go_wp2
  (try simp only [Exit.inBlock, Exit.then])
  refine bodyPost_ret (v := .tuple #[.agg #[.int .i64 o.kind, .int .i64 o.result, .slice mo' o.mem.length mc', .slice lo' o.leak.length lc'], .int .i64 e]) ?_ rfl ?_
  · simp [results, Tryz.results24, go_sem, y0, y1, y2, y3]
  · exact HF.out

end Go.Proofs.YtblhmeidbjigaabGreatDoor

/- Lists of words held against each other. -/
set_option linter.unusedSimpArgs false
set_option linter.unusedVariables false
namespace Go.Proofs.YtblhmeidbjigaabGreatDoor
open Go.RowKit

/-- What lies in memory of one's own is read. -/
theorem owns_rd {w : World} {B : Nat} {v : Value} {l : List Int} (h : w.ownsRow B 3 1 v l.length (ints l)) : RdWords w v l := by
  obtain ⟨ao, cap, rfl⟩ := owns_slice h
  refine ⟨ao, cap, rfl, owns_le h, fun i hi => ?_⟩
  obtain ⟨b, rfl, _, hb, hc⟩ := owns_cell h rfl (i := i) (by rw [ints_length]; exact hi)
  refine ⟨b, 0, rfl, ?_⟩
  rw [Nat.zero_add, hc]
  simp [ints, List.getD, hi]

end Go.Proofs.YtblhmeidbjigaabGreatDoor
