/- twinkeep.Shared: what was worked out already may be moved instead. -/
import Derived.Test.YtblhmeidbjigaabGreatDoorRows
import Derived.WalkKit
import Derived.WalkSpells
import Derived.WalkLawsBesides
import Derived.Laws.BytesArg
import Derived.Deep.QuietTactic
import Derived.BigQuiet
import Derived.Deep.RegionHeld3
import Derived.Lib.ItoaNum
import Derived.Lib.ItoaLen
import Derived.OpenShut
import Derived.Maps.AppendAt
import Derived.StillTailTactics
import Derived.Shelf.Strconv.Itoa3
import Derived.Shelf.Lay
import Derived.Ground.NamesProg
import Derived.Lib.SmallJoins
import Derived.Lib.Hide
import Derived.Deep.RegionLaw
import Derived.BigRegion
import Derived.Deep.AppendLies
import Derived.ProofKit
import Derived.SizedLaws
import Derived.Deep.Slices
import Derived.Test.YtblhmeidbjigaabGreatDoorVCmHToKShPShared

set_option linter.unusedSimpArgs false
set_option linter.unusedVariables false
namespace Go.Proofs.YtblhmeidbjigaabGreatDoor
open Go.RowKit Go.Deep

set_option maxRecDepth 100000 in
set_option maxHeartbeats 1500000 in
theorem shared_cps (ao : Option Addr) (rn cap : Nat) (so : Option Addr) (sn sc : Nat) (w : World) (hraw : RdInts w (.slice ao rn cap) rn) (hsw : RdInts w (.slice so sn sc) sn) (htab : TabW w) (Post : Ending → World → Prop)
    (hp : ∀ w', Below w.heap.size w w' → Post (.returned (.bool true)) w') :
    Calls Tryz.prog 6 #[.slice ao rn cap, .slice so sn sc] w Post := by
  obtain ⟨k0, ki, kz0, kz1, kz2⟩ := info_parts Tryz.infoOp
  have q1 := fun P' => built_cps ao rn cap 2 8 5 w (by omega) (by omega) (by omega) hraw P'
  have HP := Lib.hid hp
  clear hp
  go_enter Tryz.func6, Tryz.ntmps6
  go_wp2_with fail
  refine q1 _ ?_
  intro a0 a1 a2 v bv w1 gp hl1 hl2 hops ho hb1
  obtain ⟨R, rfl⟩ : ∃ R : Nat, a1 = (R : Int) := ⟨a1.toNat, by omega⟩
  obtain ⟨bo, pc, rfl⟩ := owns_slice ho.row
  have hlen6 : 1 ≤ bv.length ∧ bv.length ≤ 6 := by
    have := progGood_len gp
    simpa [bdat_length] using this
  obtain ⟨n, hn⟩ : ∃ n, n = bv.length := ⟨_, rfl⟩
  obtain ⟨pg, hqo, hjunk⟩ := ownBlocks_at ho (i := 0) (by omega)
  clear hjunk
  subst hqo
  rw [← hn] at ho hlen6 ⊢
  have HN := Lib.hid hn
  have sp := bdat_ops hops
  obtain ⟨wc, hwc⟩ : ∃ x, x = (w1.alloc (.cells #[.int .i64 a0, .int .i64 (R : Int), .int .i64 a2, .int .i64 0, .slice (some ⟨pg, 0, none⟩) n pc] 25)).alloc (.cells #[.slice so sn sc, .int .i64 0] 47) := ⟨_, rfl⟩
  have b1c : Below w1.heap.size w1 wc := by subst hwc; exact ((Below.refl _ _).alloc (Nat.le_refl _) _).alloc (by simp) _
  have rP : Row wc w1.heap.size 25 [.int .i64 a0, .int .i64 (R : Int), .int .i64 a2, .int .i64 0, .slice (some ⟨pg, 0, none⟩) n pc] := by subst hwc; exact Row.alloc (heap_alloc_new w1 _) _
  have rR : Row wc (w1.heap.size + 1) 47 [.slice so sn sc, .int .i64 0] := by subst hwc; exact heap_alloc2_new w1 _ _
  have bwc : Below w.heap.size w wc := hb1.trans (b1c.mono hb1.size)
  have hzc : w1.heap.size + 2 ≤ wc.heap.size := by subst hwc; simp
  have S0 : ShSt w wc w1.heap.size a0 R a2 pg n pc so sn sc bv := ⟨rP, ho.below b1c (Nat.le_refl _), fun x hx g hg => ((ho.each x hx).lt g hg).2, (ho.row.lt pg rfl).2, (ho.row.lt pg rfl).1, ⟨0, Rolls.fresh hsw bwc rR (by have := hb1.size; omega)⟩, bwc, hb1.size, hzc⟩
  have p4 := rP.cell (i := 4) rfl
  have hlow : w.heap.size ≤ w1.heap.size := hb1.size
  obtain ⟨rk, hro⟩ := S0.rolls
  have q2 := fun P' => next_cps (w1.heap.size + 1) so sn sc rk n wc hro (by omega) P'
  have HS := Lib.hid S0
  have HG := Lib.hid gp
  have HSP := Lib.hid sp
  have HTB := Lib.hid htab
  have HSW := Lib.hid hsw
  have HWC := Lib.hid hwc
  rw [hwc] at q2 p4
  clear q1 ho hops hb1 hn b1c rP rR bwc hzc S0 gp sp htab hraw hsw hro hwc
  go_wp2_with fail
  refine q2 _ ?_
  rw [← HWC.out]
  intro x rk1 W hx0 hx1 hr hk hz
  have S1 := HS.out.roll hr hk
  obtain ⟨b, rfl⟩ : ∃ b : Nat, x = (b : Int) := ⟨x.toNat, by omega⟩
  have hbn : b < n := by omega
  clear HS q2 hk hz HWC p4 hx0 hx1
  generalize w1.heap.size = Pb at *
  have q3 := fun P' => next_cps (Pb + 1) so sn sc rk1 10 W hr (by omega) P'
  have HS := Lib.hid S1
  clear hr S1
  go_wp2_with fail
  refine q3 _ ?_
  intro y rk2 W2 hy0 hy1 hr hk hz
  have S2 := HS.out.roll hr hk
  obtain ⟨dk, hdk⟩ : ∃ dk, dk = 3 + y := ⟨_, rfl⟩
  have hdkr : 3 ≤ dk ∧ dk ≤ 12 := by omega
  have hwk : IntKind.i64.wrap (3 + y) = dk := by rw [IntKind.wrap_i64]; omega
  obtain ⟨W3, hW3⟩ : ∃ x, x = W2.alloc (.cells #[.int .i64 dk, .int .i64 0, .int .i64 0, .int .i64 0] 36) := ⟨_, rfl⟩
  have b3 : Below W2.heap.size W2 W3 := by subst hW3; exact (Below.refl _ _).alloc (Nat.le_refl _) _
  have S3 := S2.keep b3
  have D3 : Row W3 W2.heap.size 36 [.int .i64 dk, .int .i64 0, .int .i64 0, .int .i64 0] := by subst hW3; exact heap_alloc_new W2 _
  have hDb : Pb + 2 ≤ W2.heap.size := S2.size
  obtain ⟨rk3, hro⟩ := S3.rolls
  have q4 := fun P' => next_cps (Pb + 1) so sn sc rk3 (R : Int) W3 hro (by omega) P'
  have HS3 := Lib.hid S3
  have HD3 := Lib.hid D3
  have p1 := S3.rowP.cell (i := 1) rfl
  have HW3 := Lib.hid hW3
  rw [hW3] at q4 p1
  have HDK := Lib.hid hdk
  clear q3 HS hr hk hz S2 S3 D3 hro b3 hW3 hdk
  go_wp2_with fail
  refine q4 _ ?_
  rw [← HW3.out]
  intro da rk4 W4 hda0 hda1 hr hk hz
  have S4 := HS3.out.roll hr hk
  have D4 := HD3.out.kept hk (by omega)
  have d1c := D4.cell (i := 1) rfl
  have d1f := D4.frozen 1
  have S5 := S4.set HSW.out (i := 1) hDb (.int .i64 da)
  have D5 := D4.set 1 (.int .i64 da)
  simp only [List.set_cons_succ, List.set_cons_zero] at D5
  obtain ⟨W, hW⟩ : ∃ x, x = W4.setCell ⟨W2.heap.size, 1, none⟩ (.int .i64 da) := ⟨_, rfl⟩
  rw [← hW] at S5 D5
  have HS := Lib.hid S5
  have HD := Lib.hid D5
  have HW := Lib.hid hW
  clear q4 HS3 HD3 hr hk hz S4 S5 D4 D5 p1 hW HW3
  generalize W2.heap.size = Db at *
  have hS0 : ∃ x : Int, ShSt w W Pb a0 R a2 pg n pc so sn sc bv ∧ Row W Db 36 [.int .i64 dk, .int .i64 da, .int .i64 x, .int .i64 0] := ⟨0, HS.out, HD.out⟩
  have cA : ∀ V, (∃ x : Int, ShSt w V Pb a0 R a2 pg n pc so sn sc bv ∧ Row V Db 36 [.int .i64 dk, .int .i64 da, .int .i64 x, .int .i64 0]) → V.cell? ⟨Db, 1, none⟩ = some (.int .i64 da) := fun V h => by obtain ⟨x, _, h⟩ := h; exact h.cell (i := 1) rfl
  have cR : ∀ V, (∃ x : Int, ShSt w V Pb a0 R a2 pg n pc so sn sc bv ∧ Row V Db 36 [.int .i64 dk, .int .i64 da, .int .i64 x, .int .i64 0]) → V.cell? ⟨Pb, 1, none⟩ = some (.int .i64 (R : Int)) := fun V h => by obtain ⟨x, h, _⟩ := h; exact h.rowP.cell (i := 1) rfl
  have cX : ∀ V, (∃ x : Int, ShSt w V Pb a0 R a2 pg n pc so sn sc bv ∧ Row V Db 36 [.int .i64 dk, .int .i64 da, .int .i64 x, .int .i64 0]) → ∃ u, V.cell? ⟨Db, 2, none⟩ = some u := fun V h => by obtain ⟨x, _, h⟩ := h; exact ⟨_, h.cell (i := 2) rfl⟩
  have cF : ∀ V, (∃ x : Int, ShSt w V Pb a0 R a2 pg n pc so sn sc bv ∧ Row V Db 36 [.int .i64 dk, .int .i64 da, .int .i64 x, .int .i64 0]) → V.frozen? ⟨Db, 2, none⟩ = false := fun V h => by obtain ⟨x, _, h⟩ := h; exact h.frozen 2
  have kd : Below W.heap.size W W.drew := (Below.refl _ _).drew
  have S1 := HS.out.keep kd
  have D1 := HD.out.keep kd
  have hS1 : ∃ x : Int, ShSt w W.drew Pb a0 R a2 pg n pc so sn sc bv ∧ Row W.drew Db 36 [.int .i64 dk, .int .i64 da, .int .i64 x, .int .i64 0] := ⟨0, S1, D1⟩
  obtain ⟨rk, hro⟩ := S1.rolls
  have q3 := fun P' => next_cps (Pb + 1) so sn sc rk ((R : Int) - 1) W.drew hro (by omega) P'
  have HS1 := Lib.hid S1
  have HD1 := Lib.hid D1
  have hwa : IntKind.i64.wrap (da + 1) = da + 1 := by rw [IntKind.wrap_i64]; omega
  have hws : IntKind.i64.wrap ((R : Int) - 1) = (R : Int) - 1 := by rw [IntKind.wrap_i64]; omega
  have hR0 : ¬ (R = 0) := by omega
  clear S1 D1 hro HS HD
  go_wp2
  rw [← HW.out]
  clear HW
  go_region_held3 (fun V => ∃ x : Int, ShSt w V Pb a0 R a2 pg n pc so sn sc bv ∧ Row V Db 36 [.int .i64 dk, .int .i64 da, .int .i64 x, .int .i64 0]) (first | with_reducible exact hS1 | with_reducible exact hS3 | with_reducible exact hS4) (first | (go_at_call 13; refine q3 _ ?_; intro y rk3 w3 hy0 hy1 hr3 hk3 hz3; have S3 := HS1.out.roll hr3 hk3; have D3 := HD1.out.kept hk3 (by omega); have dcc := D3.cell (i := 2) rfl; have dcf := D3.frozen 2; have hS3 : ∃ x : Int, ShSt w w3 Pb a0 R a2 pg n pc so sn sc bv ∧ Row w3 Db 36 [.int .i64 dk, .int .i64 da, .int .i64 x, .int .i64 0] := ⟨0, S3, D3⟩; have hwy : IntKind.i64.wrap (da + 1 + y) = da + 1 + y := (by rw [IntKind.wrap_i64]; omega); obtain ⟨db, hdv⟩ : ∃ db, db = (da + 1 + y).tmod (R : Int) := ⟨_, rfl⟩; have hmo := mod_other (R := (R : Int)) ⟨hda0, hda1⟩ ⟨hy0, hy1⟩; rw [← hdv] at hmo; have htm : (da + 1 + y).tmod (R : Int) = db := hdv.symm; clear hdv; have S4 := S3.set HSW.out (i := 2) hDb (.int .i64 db); have D4 := D3.set 2 (.int .i64 db); simp only [List.set_cons_succ, List.set_cons_zero] at D4; have hS4 : ∃ x : Int, ShSt w (w3.setCell ⟨Db, 2, none⟩ (.int .i64 db)) Pb a0 R a2 pg n pc so sn sc bv ∧ Row (w3.setCell ⟨Db, 2, none⟩ (.int .i64 db)) Db 36 [.int .i64 dk, .int .i64 da, .int .i64 x, .int .i64 0] := ⟨db, S4, D4⟩))
  try clear d0c
  clear hS0 hS1 HS1 HD1 kd q3 hr3 hk3 hz3 W
  obtain ⟨W, hW'⟩ : ∃ x, x = w3.setCell ⟨Db, 2, none⟩ (.int .i64 db) := ⟨_, rfl⟩
  rw [← hW'] at S4 D4 ⊢
  obtain ⟨db0, db1, dbn⟩ := hmo
  have HS := Lib.hid S4
  have HD := Lib.hid D4
  clear cA cR cX cF hwa hws hR0 S3 D3 dcc dcf hS3 hwy htm hS4 hy0 hy1 S4 D4 hW'
  have d0c := HD.out.cell (i := 0) rfl
  by_cases hdk12 : dk = 12
  · have hne : (dk != 12) = false := by simp [hdk12]
    have HDK12 := Lib.hid hdk12
    clear hdk12
    have hSD : Hid (ShD (R : Int) ⟨dk, da, db, 0⟩) := ⟨hdkr, by have e := HDK12.out; subst e; simp [opGood, below]; omega, dbn, fun h => absurd HDK12.out h⟩
    have d0 := HD.out.cell (i := 0) rfl
    have d1 := HD.out.cell (i := 1) rfl
    have d2 := HD.out.cell (i := 2) rfl
    have d3 := HD.out.cell (i := 3) rfl
    have hzW : Db + 1 ≤ W.heap.size := HD.out.lt
    obtain ⟨W1, hW1⟩ : ∃ x, x = W.alloc (.cells #[.int .i64 dk, .int .i64 da, .int .i64 db, .int .i64 0] 36) := ⟨_, rfl⟩
    have bW1 : Below W.heap.size W W1 := by subst hW1; exact (Below.refl _ _).alloc (Nat.le_refl _) _
    have S1 := HS.out.keep bW1
    have D1 := HD.out.keep bW1
    have l1 : W1.ownsRow (Db + 1) 36 4 (.slice (some ⟨W.heap.size, 0, none⟩) 1 1) 1 (opCells [⟨dk, da, db, 0⟩]) := by subst hW1; exact owns_one hzW _ _ _ _ _
    have hz1 : Db + 1 ≤ W1.heap.size := Nat.le_trans hzW bW1.size
    have hbq : b < bv.length := by rw [← HN.out]; exact hbn
    have HS1 := Lib.hid S1
    have HW1 := Lib.hid hW1
    have hb0 : (0 : Int) ≤ (b : Int) := by omega
    have hbn' : (b : Int) < (n : Int) := by omega
    obtain ⟨ops, hopse⟩ : ∃ ops, ops = bv[b].1.ops := ⟨_, rfl⟩
    have HOPS : Hid (ops = bv[b].1.ops) := hopse
    obtain ⟨uo, uc, hsv⟩ := owns_slice (S1.ownP.each _ (List.getElem_mem hbq))
    rw [← hopse] at hsv
    obtain ⟨on, hon⟩ : ∃ on, on = ops.length := ⟨_, rfl⟩
    have hon5 : on ≤ 5 := by
      have h1 := HSP.out b (by rw [bdat_length]; exact hbq)
      rw [(bdat_get bv hbq).1, ← hopse, ← hon] at h1
      omega
    have HON := Lib.hid hon
    have HSV := Lib.hid hsv
    clear HS HD bW1 S1 hW1 hopse hsv hon
    go_wp2
    rw [← HW1.out]
    clear HW1 d0 d1 d2 d3
    try clear d0c
    go_loopw [9, 10] (fun lv iv wi => ∃ (i : Nat) (lk : List OpD), i ≤ on ∧ iv = .int .i64 i ∧ ShSt w wi Pb a0 R a2 pg n pc so sn sc bv ∧ Row wi Db 36 [.int .i64 dk, .int .i64 da, .int .i64 db, .int .i64 0] ∧ wi.ownsRow (Db + 1) 36 4 lv (lk.length + 1) (opCells (⟨dk, da, db, 0⟩ :: lk)) ∧ Hid (∀ o ∈ lk, opGood (R : Int) 0 o = true ∧ keepK ⟨dk, da, db, 0⟩ o) ∧ lk.length ≤ i ∧ Db + 1 ≤ wi.heap.size)
      (fun _ iv _ => on - (intOf iv).toNat)
    case atStart => exact ⟨0, [], by omega, rfl, HS1.out, D1, l1, fun o ho => by (cases ho), by simp, hz1⟩
    case round =>
      clear HS1 D1 l1 hz1 hzW
      rename World => wi
      obtain ⟨i, lk, hi, rfl, S, rD, lown, hlk, hlen, hzi⟩ := hrel
      obtain ⟨pg', epg, _, cp0, _⟩ := ownBlocks_at S.ownP hbq
      simp only [Option.some.injEq, Addr.mk.injEq, and_true] at epg
      subst epg
      rw [HSV.out, ← HON.out] at cp0
      have p4 := S.rowP.cell (i := 4) rfl
      obtain ⟨lo, lc, rfl⟩ := owns_slice lown
      by_cases hio : i < on
      · have hrow := S.ownP.each _ (List.getElem_mem hbq)
        rw [← HOPS.out, HSV.out] at hrow
        have hil : i < ops.length := by rw [← HON.out]; exact hio
        obtain ⟨g, hlo, hgB, gx0, gx1, gx2, gx3, _⟩ := owns_ops_at hrow hil
        subst hlo
        obtain ⟨X, hX⟩ : ∃ X, X = ops.getD i oz := ⟨_, rfl⟩
        simp only [okind, oa, ob, oc] at gx0 gx1 gx2 gx3
        rw [← hX] at gx0 gx1 gx2 gx3
        have HXG : Hid (opGood (R : Int) 0 X = true) := by
          show _ = _
          have gb := good_at HG.out (b := b) (by rw [bdat_length]; exact hbq)
          simp only [blockGood, Bool.and_eq_true, opsGood, List.all_eq_true] at gb
          refine gb.1.2 X ?_
          rw [(bdat_get bv hbq).1, ← HOPS.out, hX]
          exact getD_mem' hil
        obtain ⟨x0, x1, x2, x3⟩ := X
        dsimp only at gx0 gx1 gx2 gx3
        have hi0 : (0 : Int) ≤ (i : Int) := by omega
        have hin : (i : Int) < (on : Int) := by omega
        obtain ⟨w4, hw4⟩ : ∃ x, x = wi.alloc (.cells #[.int .i64 x0, .int .i64 x1, .int .i64 x2, .int .i64 x3] 36) := ⟨_, rfl⟩
        have b4 : Below wi.heap.size wi w4 := by subst hw4; exact (Below.refl _ _).alloc (Nat.le_refl _) _
        have rO4 : Row w4 wi.heap.size 36 [.int .i64 x0, .int .i64 x1, .int .i64 x2, .int .i64 x3] := by subst hw4; exact heap_alloc_new wi _
        have q5 := fun P' => kWrites_cps x0 x1 x2 x3 w4 P'
        have HB4 := Lib.hid b4
        have HRO4 := Lib.hid rO4
        have oo0 := rO4.cell (i := 0) rfl
        have oo1 := rO4.cell (i := 1) rfl
        have oo2 := rO4.cell (i := 2) rfl
        have oo3 := rO4.cell (i := 3) rfl
        have HW4 := Lib.hid hw4
        rw [hw4] at q5 oo0 oo1 oo2 oo3
        have HS := Lib.hid S
        have HD := Lib.hid rD
        have HL := Lib.hid lown
        clear S rD lown hrow hX hgB hil hw4 rO4 b4
        go_wp2_with fail
        refine q5 _ ?_
        rw [← HW4.out]
        intro w5 b5
        have b05 := HB4.out.trans (b5.mono HB4.out.size)
        obtain ⟨wv, hwv⟩ : ∃ wv, wv = writesK ⟨x0, x1, x2, x3⟩ := ⟨_, rfl⟩
        rw [← hwv]
        have HWV := Lib.hid hwv
        have rD5 := HD.out.keep b05
        have rO5 := HRO4.out.keep b5
        have dd0 := rD5.cell (i := 0) rfl
        have dd1 := rD5.cell (i := 1) rfl
        have dd2 := rD5.cell (i := 2) rfl
        have dd3 := rD5.cell (i := 3) rfl
        have q6 := fun P' => kReads_cps dk da db 0 wv w5 P'
        have HB05 := Lib.hid b05
        have HRO5 := Lib.hid rO5
        clear q5 hwv b05 b5 rD5 rO5 oo0 oo1 oo2 oo3 HB4 HRO4 HW4 gx0 gx1 gx2 gx3 cp0 p4
        go_wp2_with fail
        refine q6 _ ?_
        intro z w6 hzz b6
        have b06 := HB05.out.trans (b6.mono HB05.out.size)
        have HZZ := Lib.hid hzz
        have S6 := HS.out.keep b06
        have rD6 := HD.out.keep b06
        have rO6 := HRO5.out.keep b6
        have lown6 := owns_below HL.out b06 (Nat.le_refl _)
        have hz6 : Db + 1 ≤ w6.heap.size := Nat.le_trans hzi b06.size
        clear q6 dd0 dd1 dd2 dd3 hzz b6 b06 HS HD HL HB05 HRO5 hzi
        have dd0 := rD6.cell (i := 0) rfl
        have dd1 := rD6.cell (i := 1) rfl
        have dd2 := rD6.cell (i := 2) rfl
        have dd3 := rD6.cell (i := 3) rfl
        have o0 := rO6.cell (i := 0) rfl
        have o1 := rO6.cell (i := 1) rfl
        have o2 := rO6.cell (i := 2) rfl
        have o3 := rO6.cell (i := 3) rfl
        have HS6 := Lib.hid S6
        have HD6 := Lib.hid rD6
        clear S6 rD6 rO6
        have k12 : (dk == 12) = true := by simp [HDK12.out]
        by_cases c1 : wv = da
        · have c1n : (wv != da) = false := by simp [c1]
          have HC1 := Lib.hid c1
          clear c1
          cases z with
          | true =>
            by_cases c13 : x0 = 13
            · have e13 : (x0 == 13) = true := by simp [c13]
              have HC13 := Lib.hid c13
              clear c13
              clear HXG
              go_wp2
              go_roundw
              case rel => exact ⟨i + 1, lk, by omega, by go_num, HS6.out, HD6.out, lown6, hlk, by omega, hz6⟩
              case measure => simp [intOf]; omega
            · have e13 : (x0 == 13) = false := by simp [c13]
              have HC13 := Lib.hid c13
              clear c13
              clear HXG
              go_wp2
              go_roundw
              case rel => exact ⟨i + 1, lk, by omega, by go_num, HS6.out, HD6.out, lown6, hlk, by omega, hz6⟩
              case measure => simp [intOf]; omega
          | false =>
            by_cases c13 : x0 = 13
            · have e13 : (x0 == 13) = true := by simp [c13]
              have HC13 := Lib.hid c13
              clear c13
              clear HXG
              go_wp2
              go_roundw
              case rel => exact ⟨i + 1, lk, by omega, by go_num, HS6.out, HD6.out, lown6, hlk, by omega, hz6⟩
              case measure => simp [intOf]; omega
            · have e13 : (x0 == 13) = false := by simp [c13]
              have HC13 := Lib.hid c13
              clear c13
              clear HXG
              go_wp2
              go_roundw
              case rel => exact ⟨i + 1, lk, by omega, by go_num, HS6.out, HD6.out, lown6, hlk, by omega, hz6⟩
              case measure => simp [intOf]; omega
        · have c1n : (wv != da) = true := by simp [c1]
          have HC1 := Lib.hid c1
          clear c1
          cases z with
          | true =>
            by_cases c13 : x0 = 13
            · have e13 : (x0 == 13) = true := by simp [c13]
              have HC13 := Lib.hid c13
              clear c13
              clear HXG
              go_wp2
              go_roundw
              case rel => exact ⟨i + 1, lk, by omega, by go_num, HS6.out, HD6.out, lown6, hlk, by omega, hz6⟩
              case measure => simp [intOf]; omega
            · have e13 : (x0 == 13) = false := by simp [c13]
              have HC13 := Lib.hid c13
              clear c13
              clear HXG
              go_wp2
              go_roundw
              case rel => exact ⟨i + 1, lk, by omega, by go_num, HS6.out, HD6.out, lown6, hlk, by omega, hz6⟩
              case measure => simp [intOf]; omega
          | false =>
            by_cases c13 : x0 = 13
            · have e13 : (x0 == 13) = true := by simp [c13]
              have HC13 := Lib.hid c13
              clear c13
              clear HXG
              go_wp2
              go_roundw
              case rel => exact ⟨i + 1, lk, by omega, by go_num, HS6.out, HD6.out, lown6, hlk, by omega, hz6⟩
              case measure => simp [intOf]; omega
            · have e13 : (x0 == 13) = false := by simp [c13]
              have HC13 := Lib.hid c13
              clear c13
              have HKP : Hid (keepK ⟨dk, da, db, 0⟩ ⟨x0, x1, x2, x3⟩) := ⟨by rw [← HWV.out]; exact HC1.out, fun c => (by have := HZZ.out.2 (by rw [HWV.out]; exact c); cases this), fun c => HC13.out c.2⟩
              go_wp2_with (at_builtin; refine wpList_append_own _ rfl _ _ 34 rfl (Db + 1) 36 k0 (.agg #[.int .i64 0, .int .i64 0, .int .i64 0, .int .i64 0]) 4 32 Tryz.underlying34 ki kz0 kz1 kz2 rfl (by decide) _ _ _ rfl (lown6.alloc _) ⟨w6.heap.size, 0, none⟩ 1 1 [.int .i64 x0, .int .i64 x1, .int .i64 x2, .int .i64 x3] rfl rfl ?e1 four_one ?e3 ?e4 ?e5 ?_)
              try (case e1 => simpa using four_new w6 _ _ _ _ _)
              try (case e3 => unfold maxLen; omega)
              try (case e4 => omega)
              try (case e5 => first | omega | (simp; omega))
              intro v7 w7 hown7 hgrow7 _
              rw [← opCells_snoc] at hown7
              have b7 := ((Below.refl (Db + 1) w6).alloc hz6 (.cells #[.int .i64 x0, .int .i64 x1, .int .i64 x2, .int .i64 x3] 36)).grown hgrow7 (by simp; omega) (fun g hg => (lown6.lt g hg).1)
              have D7 := HD6.out.below b7 (by omega)
              have S7 := HS6.out.grow HSW.out b7 (by omega)
              have hz7 : Db + 1 ≤ w7.heap.size := Nat.le_trans hz6 b7.size
              obtain ⟨lo7, lc7, rfl⟩ := owns_slice hown7
              have HS7 := Lib.hid S7
              have HK : Hid (∀ o ∈ lk ++ [⟨x0, x1, x2, x3⟩], opGood (R : Int) 0 o = true ∧ keepK ⟨dk, da, db, 0⟩ o) := fun o ho => by
                rw [List.mem_append, List.mem_singleton] at ho
                rcases ho with ho | rfl
                · exact hlk.out o ho
                · exact ⟨HXG.out, HKP.out⟩
              clear S7 hgrow7 b7 HS6 HD6 lown6 hlk HXG HKP o0 o1 o2 o3 dd0 dd1 dd2 dd3
              go_wp2
              go_roundw
              case rel => exact ⟨i + 1, lk ++ [⟨x0, x1, x2, x3⟩], by omega, by go_num, HS7.out, D7, by simpa using hown7, HK, by simp; omega, hz7⟩
              case measure => simp [intOf]; omega
      · have S8 := S
        have dd0 := rD.cell (i := 0) rfl
        have dd1 := rD.cell (i := 1) rfl
        have dd2 := rD.cell (i := 2) rfl
        have dd3 := rD.cell (i := 3) rfl
        obtain ⟨w8, hw8⟩ : ∃ x, x = wi.alloc (.cells #[.int .i64 dk, .int .i64 da, .int .i64 db, .int .i64 0] 36) := ⟨_, rfl⟩
        have b8 : Below wi.heap.size wi w8 := by subst hw8; exact (Below.refl _ _).alloc (Nat.le_refl _) _
        have rA8 : Row w8 wi.heap.size 36 [.int .i64 dk, .int .i64 da, .int .i64 db, .int .i64 0] := by subst hw8; exact heap_alloc_new wi _
        have S8 := S.keep b8
        have D8 := rD.keep b8
        have l8 := owns_below lown b8 (Nat.le_refl _)
        have hlb : ∀ g, (Value.slice lo (lk.length + 1) lc).ownBlock = some g → Db + 1 ≤ g ∧ g < wi.heap.size := fun g hg => lown.lt g hg
        have p1 := S8.rowP.cell (i := 1) rfl
        obtain ⟨rk8, hro8⟩ := S8.rolls
        have q8 := fun P' => next_cps (Pb + 1) so sn sc rk8 (R : Int) w8 hro8 (by omega) P'
        have HS8 := Lib.hid S8
        have HD8 := Lib.hid D8
        have HA8 := Lib.hid rA8
        have HL8 := Lib.hid l8
        have HW8 := Lib.hid hw8
        rw [hw8] at q8 p1
        clear S S8 rD lown b8 rA8 D8 l8 hro8 hw8
        go_wp2_with fail
        refine q8 _ ?_
        rw [← HW8.out]
        intro x rk9 w9 hx0 hx1 hr9 hk9 hz9
        have S9 := HS8.out.roll hr9 hk9
        have D9 := HD8.out.kept hk9 (by omega)
        have A9 := HA8.out.kept hk9 (by omega)
        have l9 := owns_same HL8.out (fun g hg => hk9.block g (HL8.out.lt g hg).2 (by have := hlb g hg; omega))
        have hz98 : wi.heap.size + 1 ≤ w9.heap.size := by rw [hz9, HW8.out]; simp
        obtain ⟨Ab, hAb⟩ : ∃ Ab, Ab = wi.heap.size := ⟨_, rfl⟩
        rw [← hAb] at A9 hlb hz98 ⊢
        have hAD : Db + 1 ≤ Ab := by rw [hAb]; exact hzi
        clear hAb
        have ac1 := A9.cell (i := 1) rfl
        have af1 := A9.frozen 1
        have S10 := S9.set HSW.out (g := Ab) (i := 1) (by omega) (.int .i64 x)
        have D10 := D9.unset (a := ⟨Ab, 1, none⟩) (by show Db ≠ Ab; omega) (.int .i64 x)
        have A10 := A9.set 1 (.int .i64 x)
        simp only [List.set_cons_succ, List.set_cons_zero] at A10
        have l10 := owns_unset l9 (g := Ab) (i := 1) (fun e => by have := hlb Ab e; omega) (.int .i64 x)
        obtain ⟨w10, hw10⟩ : ∃ x', x' = w9.setCell ⟨Ab, 1, none⟩ (.int .i64 x) := ⟨_, rfl⟩
        have hz10 : Ab + 1 ≤ w10.heap.size := by rw [hw10]; simpa using hz98
        rw [← hw10] at S10 D10 A10 l10
        have rdp := OwnBlocks.rd S10.ownP
        have hln : n = (bdat bv).length := by rw [bdat_length]; exact HN.out
        have q11 := fun P' => clone_cps a0 (R : Int) a2 0 (some ⟨pg, 0, none⟩) pc (bdat bv) w10 (by rw [← hln]; exact rdp) (by omega) (fun b hb => by have := HSP.out b hb; omega) P'
        rw [← hln] at q11
        have e0 := S10.rowP.cell (i := 0) rfl
        have e1 := S10.rowP.cell (i := 1) rfl
        have e2 := S10.rowP.cell (i := 2) rfl
        have e3 := S10.rowP.cell (i := 3) rfl
        have e4 := S10.rowP.cell (i := 4) rfl
        have HS10 := Lib.hid S10
        have HD10 := Lib.hid D10
        have HA10 := Lib.hid A10
        have HL10 := Lib.hid l10
        have HLN := Lib.hid hln
        have HW10 := Lib.hid hw10
        rw [hw10] at q11 e0 e1 e2 e3 e4
        clear q8 hr9 hk9 hz9 S9 D9 A9 l9 S10 D10 A10 l10 rdp hln hw10 HS8 HD8 HA8 HL8 HW8 p1 dd0 dd1 dd2 dd3 cp0 p4
        go_wp2_with fail
        refine q11 _ ?_
        rw [← HW10.out]
        intro v qv w11 hd11 hoq hb11
        obtain ⟨qo, qc, hv⟩ := owns_slice hoq.row
        have hqn : qv.length = n := by
          have h1 := congrArg List.length hd11.out
          rw [bdat_length, ← HLN.out] at h1
          exact h1
        rw [hqn] at hv
        subst hv
        obtain ⟨qg, hqo, hjunk⟩ := ownBlocks_at hoq (i := 0) (by omega)
        clear hjunk
        subst hqo
        have hqg := hoq.row.lt qg rfl
        obtain ⟨w12, hw12⟩ : ∃ x', x' = w11.alloc (.cells #[.int .i64 a0, .int .i64 (R : Int), .int .i64 a2, .int .i64 0, .slice (some ⟨qg, 0, none⟩) n qc] 25) := ⟨_, rfl⟩
        have b12 : Below w11.heap.size w11 w12 := by subst hw12; exact (Below.refl _ _).alloc (Nat.le_refl _) _
        have rQ12 : Row w12 w11.heap.size 25 [.int .i64 a0, .int .i64 (R : Int), .int .i64 a2, .int .i64 0, .slice (some ⟨qg, 0, none⟩) n qc] := by subst hw12; exact heap_alloc_new w11 _
        have b1012 := hb11.trans (b12.mono hb11.size)
        have S12 := HS10.out.keep b1012
        have D12 := HD10.out.keep b1012
        have A12 := HA10.out.keep b1012
        have l12 := owns_below HL10.out b1012 (Nat.le_refl _)
        have oq12 := hoq.below b12 (Nat.le_refl _)
        have hz12 : w10.heap.size ≤ w11.heap.size := hb11.size
        have hz12' : w11.heap.size < w12.heap.size := rQ12.lt
        have hsrc := owns_src l12 (ops_oneCell _)
        have HQ12 := Lib.hid rQ12
        have HO12 := Lib.hid oq12
        have HDQ : Hid (bdat qv = bdat bv) := hd11.out
        have HS12 := Lib.hid S12
        have HD12 := Lib.hid D12
        have HA12 := Lib.hid A12
        have HL12 := Lib.hid l12
        have HW12 := Lib.hid hw12
        rw [hw12] at hsrc
        clear q11 HW10 hd11 hoq hb11 b12 rQ12 b1012 S12 D12 A12 l12 oq12 HS10 HD10 HA10 HL10 hw12 e0 e1 e2 e3 e4 ac1 af1
        go_wp2_with (at_builtin; refine wpList_append_any _ rfl _ _ 34 rfl w12.heap.size 36 k0 (.agg #[.int .i64 0, .int .i64 0, .int .i64 0, .int .i64 0]) 4 32 Tryz.underlying34 ki kz0 kz1 kz2 rfl (by decide) _ _ _ rfl (World.ownsRow_nil _ _ _ _) _ _ _ rfl hsrc ?g3 ?g4 ?g5 ?_)
        try (case g3 => unfold maxLen; omega)
        try (case g4 => omega)
        try (case g5 => rw [HW12.out]; exact Nat.le_refl _)
        rw [← HW12.out]
        intro v13 w13 hown13 hgrow13
        try simp only [Nat.zero_add, List.nil_append] at hown13
        have b13 := (Below.refl w12.heap.size w12).grown hgrow13 (Nat.le_refl _) (fun g hg => by simp [Value.ownBlock] at hg)
        have hz13 := b13.size
        obtain ⟨mo13, mc13, rfl⟩ := owns_slice hown13
        have a1c := (HA12.out.keep b13).cell (i := 1) rfl
        have d1c := (HD12.out.keep b13).cell (i := 1) rfl
        clear hsrc hgrow13 HW12
        go_wp2_with (at_builtin; refine wpList_append_own _ rfl _ _ 34 rfl w12.heap.size 36 k0 (.agg #[.int .i64 0, .int .i64 0, .int .i64 0, .int .i64 0]) 4 32 Tryz.underlying34 ki kz0 kz1 kz2 rfl (by decide) _ _ _ rfl (hown13.alloc _) ⟨w13.heap.size, 0, none⟩ 1 1 [.int .i64 2, .int .i64 x, .int .i64 da, .int .i64 0] rfl rfl ?e1 four_one ?e3 ?e4 ?e5 ?_)
        try (case e1 => simpa using four_new w13 _ _ _ _ _)
        try (case e3 => unfold maxLen; omega)
        try (case e4 => omega)
        try (case e5 => first | omega | (simp; omega))
        intro v14 w14 hown14 hgrow14 _
        rw [← opCells_snoc] at hown14
        have b14 := (b13.alloc hz13 (.cells #[.int .i64 2, .int .i64 x, .int .i64 da, .int .i64 0] 36)).grown hgrow14 (by simp; omega) (fun g hg => (hown13.lt g hg).1)
        have hz14 := b14.size
        obtain ⟨mo14, mc14, rfl⟩ := owns_slice hown14
        have S14 := HS12.out.keep b14
        have D14 := HD12.out.keep b14
        have A14 := HA12.out.keep b14
        have l14 := owns_below HL12.out b14 (Nat.le_refl _)
        have oq14 := HO12.out.below b14 (Nat.le_refl _)
        have rQ14 := HQ12.out.keep b14
        have hbqq : b < qv.length := by rw [hqn]; exact hbn
        obtain ⟨qg', eqg, _, cq0, _, _, _, _, cqf⟩ := ownBlocks_at oq14 hbqq
        simp only [Option.some.injEq, Addr.mk.injEq, and_true] at eqg
        subst eqg
        have cqf0 := cqf (b * 5)
        have q4 := rQ14.cell (i := 4) rfl
        have EQ : ⟨dk, da, db, 0⟩ :: lk ++ [⟨2, x, da, 0⟩] = shQ ⟨dk, da, db, 0⟩ lk x := rfl
        have hshq : (shQ ⟨dk, da, db, 0⟩ lk x).length = lk.length + 1 + 1 := by simp [shQ]
        have hown14' : w14.ownsRow w12.heap.size 36 4 (.slice mo14 (lk.length + 1 + 1) mc14) (shQ ⟨dk, da, db, 0⟩ lk x).length (opCells (shQ ⟨dk, da, db, 0⟩ lk x)) := by rw [hshq]; exact hown14
        have hqlow : ∀ y ∈ qv, ∀ g, y.2.ownBlock = some g → g < w12.heap.size := fun y hy g hg => ((HO12.out.each y hy).lt g hg).2
        have oq15 := oq14.setOps hbqq (owns_base hown14' (show w10.heap.size ≤ w12.heap.size by omega)) (fun y hy g hg e => by have q1 := hqlow y hy g hg; have q2 := (hown14'.lt g e).1; omega)
        have S15 := S14.set HSW.out (g := qg) (i := b * 5) (by omega) (.slice mo14 (lk.length + 1 + 1) mc14)
        have D15 := D14.unset (a := ⟨qg, b * 5, none⟩) (by show Db ≠ qg; omega) (.slice mo14 (lk.length + 1 + 1) mc14)
        have A15 := A14.unset (a := ⟨qg, b * 5, none⟩) (by show Ab ≠ qg; omega) (.slice mo14 (lk.length + 1 + 1) mc14)
        have rQ15 := rQ14.unset (a := ⟨qg, b * 5, none⟩) (by show w11.heap.size ≠ qg; omega) (.slice mo14 (lk.length + 1 + 1) mc14)
        have l15 := owns_unset l14 (g := qg) (i := b * 5) (fun e => by have := hlb qg e; omega) (.slice mo14 (lk.length + 1 + 1) mc14)
        have EB : Hid (bdat (qv.set b (⟨shQ ⟨dk, da, db, 0⟩ lk x, qv[b].1.fin⟩, .slice mo14 (lk.length + 1 + 1) mc14)) = (bdat bv).set b ⟨shQ ⟨dk, da, db, 0⟩ lk x, bfin (bdat bv) b⟩) := by
          show _ = _
          rw [bdat_set, ← HDQ.out, (bdat_get qv hbqq).2]
        obtain ⟨qv', hqv'⟩ : ∃ qv', qv' = qv.set b (⟨shQ ⟨dk, da, db, 0⟩ lk x, qv[b].1.fin⟩, .slice mo14 (lk.length + 1 + 1) mc14) := ⟨_, rfl⟩
        rw [← hqv'] at oq15 EB
        have hzs : (w14.setCell ⟨qg, b * 5, none⟩ (.slice mo14 (lk.length + 1 + 1) mc14)).heap.size = w14.heap.size := by simp
        obtain ⟨w15, hw15⟩ : ∃ x', x' = w14.setCell ⟨qg, b * 5, none⟩ (.slice mo14 (lk.length + 1 + 1) mc14) := ⟨_, rfl⟩
        rw [← hw15] at oq15 S15 D15 A15 rQ15 l15 hzs
        have ag0 := A15.cell (i := 0) rfl
        have ag1 := A15.cell (i := 1) rfl
        have ag2 := A15.cell (i := 2) rfl
        have ag3 := A15.cell (i := 3) rfl
        have HS15 := Lib.hid S15
        have HO15 := Lib.hid oq15
        have HQ15 := Lib.hid rQ15
        have HW15 := Lib.hid hw15
        have hz15 : w11.heap.size < w15.heap.size := by omega
        have HZS := Lib.hid hzs
        have hqlo : ∀ y ∈ qv', ∀ g, y.2.ownBlock = some g → w10.heap.size ≤ g := fun y hy g hg => ((oq15.each y hy).lt g hg).1
        rw [hw15] at ag0 ag1 ag2 ag3
        clear hgrow14 hown13 b13 a1c d1c b14 S14 D14 A14 l14 oq14 rQ14 cqf EQ hshq hown14 hown14' hqlow oq15 S15 D15 A15 rQ15 hqv' hzs hw15 HS12 HD12 HA12 HL12 HO12 HQ12 HDQ
        go_wp2_with (at_builtin; rw [← HW15.out]; refine wpList_append_own _ rfl _ _ 34 rfl (Db + 1) 36 k0 (.agg #[.int .i64 0, .int .i64 0, .int .i64 0, .int .i64 0]) 4 32 Tryz.underlying34 ki kz0 kz1 kz2 rfl (by decide) _ _ _ rfl (l15.alloc _) ⟨w14.heap.size, 0, none⟩ 1 1 [.int .i64 dk, .int .i64 x, .int .i64 db, .int .i64 0] rfl rfl ?n1 four_one ?n3 ?n4 ?n5 ?_)
        try (case n1 => rw [← HZS.out]; simpa using four_new w15 _ _ _ _ _)
        try (case n3 => unfold maxLen; omega)
        try (case n4 => omega)
        try (case n5 => first | omega | (simp; omega))
        intro v16 w16 hown16 hgrow16 _
        rw [← opCells_snoc] at hown16
        have b16 := ((Below.refl (Db + 1) w15).alloc (by omega) (.cells #[.int .i64 dk, .int .i64 x, .int .i64 db, .int .i64 0] 36)).grown hgrow16 (by simp; omega) (fun g hg => (l15.lt g hg).1)
        have hz16 := b16.size
        obtain ⟨lo16, lc16, rfl⟩ := owns_slice hown16
        have hshp : (shP ⟨dk, da, db, 0⟩ lk x).length = lk.length + 1 + 1 := by simp [shP]
        have l16 : w16.ownsRow (Db + 1) 36 4 (.slice lo16 (lk.length + 1 + 1) lc16) (shP ⟨dk, da, db, 0⟩ lk x).length (opCells (shP ⟨dk, da, db, 0⟩ lk x)) := by rw [hshp]; exact hown16
        have hap : ∀ g, w10.heap.size ≤ g → (Value.slice lo (lk.length + 1) lc).ownBlock ≠ some g := fun g hg e => by have := hlb g e; omega
        have S16 := HS15.out.grow HSW.out b16 (by omega)
        have oq16 := (HO15.out.alloc (.cells #[.int .i64 dk, .int .i64 x, .int .i64 db, .int .i64 0] 36)).grown hgrow16 (fun g hg => hap g ((HO15.out.row.lt g hg).1)) (fun y hy g hg => hap g (hqlo y hy g hg))
        have rQ16 := (HQ15.out.alloc (.cells #[.int .i64 dk, .int .i64 x, .int .i64 db, .int .i64 0] 36)).same (hgrow16.block w11.heap.size (by simp; omega) (fun e => hap _ hz12 e.symm))
        obtain ⟨pg', epg, _, cp0, _, _, _, _, cpf⟩ := ownBlocks_at S16.ownP hbq
        simp only [Option.some.injEq, Addr.mk.injEq, and_true] at epg
        subst epg
        have cpf0 := cpf (b * 5)
        have p4 := S16.rowP.cell (i := 4) rfl
        have hPg := S16.pgl
        have hwPb := S16.pb
        have op17 := S16.ownP.setOps hbq (owns_base l16 (show w.heap.size ≤ Db + 1 by omega)) (fun y hy g hg e => by have q1 := S16.low y hy g hg; have q2 := (l16.lt g e).1; omega)
        have rP17 := S16.rowP.unset (a := ⟨pg, b * 5, none⟩) (by show Pb ≠ pg; omega) (.slice lo16 (lk.length + 1 + 1) lc16)
        have oq17 := oq16.setLow (a := ⟨pg, b * 5, none⟩) (by show pg < w10.heap.size; omega) (.slice lo16 (lk.length + 1 + 1) lc16)
        have rQ17 := rQ16.unset (a := ⟨pg, b * 5, none⟩) (by show w11.heap.size ≠ pg; omega) (.slice lo16 (lk.length + 1 + 1) lc16)
        have bel17 := S16.below.setCell (p := ⟨pg, b * 5, none⟩) S16.pgb (.slice lo16 (lk.length + 1 + 1) lc16)
        have EP : Hid (bdat (bv.set b (⟨shP ⟨dk, da, db, 0⟩ lk x, bv[b].1.fin⟩, .slice lo16 (lk.length + 1 + 1) lc16)) = (bdat bv).set b ⟨shP ⟨dk, da, db, 0⟩ lk x, bfin (bdat bv) b⟩) := by
          show _ = _
          rw [bdat_set, (bdat_get bv hbq).2]
        have rdp17 := OwnBlocks.rd op17
        have rdq17 := OwnBlocks.rd oq17
        rw [EP.out] at rdp17
        rw [EB.out] at rdq17
        obtain ⟨tg1, tg2, tv⟩ := share_twin HG.out (fun b hb => by have := HSP.out b hb; omega) (b := b) (by rw [bdat_length]; exact hbq) hSD.out hlk.out (by omega) (x := x) ⟨hx0, hx1⟩
        obtain ⟨w17, hw17⟩ : ∃ x', x' = w16.setCell ⟨pg, b * 5, none⟩ (.slice lo16 (lk.length + 1 + 1) lc16) := ⟨_, rfl⟩
        rw [← hw17] at rdp17 rdq17 rP17 rQ17 bel17
        have q18 := fun P' => identity_cps a0 (R : Int) a2 0 (some ⟨pg, 0, none⟩) n pc w17 (by omega) (by omega) (by omega) P'
        have e0 := rP17.cell (i := 0) rfl
        have e1 := rP17.cell (i := 1) rfl
        have e2 := rP17.cell (i := 2) rfl
        have e3 := rP17.cell (i := 3) rfl
        have e4 := rP17.cell (i := 4) rfl
        have HRP := Lib.hid rP17
        have HRQ := Lib.hid rQ17
        have HRDP := Lib.hid rdp17
        have HRDQ := Lib.hid rdq17
        have HBW := Lib.hid bel17
        have HTV := Lib.hid tv
        have HGP := Lib.hid tg1
        have HGQ := Lib.hid tg2
        have HW17 := Lib.hid hw17
        rw [hw17] at q18 e0 e1 e2 e3 e4
        clear hgrow16 hown16 b16 hshp l16 hap S16 oq16 rQ16 cpf op17 oq17 rP17 rQ17 bel17 EP EB rdp17 rdq17 tv tg1 tg2 hw17 HS15 HO15 HQ15 HW15 l15 ag0 ag1 ag2 ag3 hqlo q4 cq0 cqf0
        go_wp2_with fail
        refine q18 _ ?_
        rw [← HW17.out]
        intro v hv w18 hd hoh hb18
        obtain ⟨ho', hc', rfl⟩ := owns_slice hoh.row
        have rh18 := OwnHint.rd hoh
        rw [hd.out] at rh18
        have hid : idPings n ((R : Int)).toNat = idHint ⟨a0, R, a2, 0, (bdat bv).set b ⟨shP ⟨dk, da, db, 0⟩ lk x, bfin (bdat bv) b⟩⟩ := by rw [idHint_pings]; show idPings n _ = idPings ((bdat bv).set b _).length _; rw [List.length_set, ← HLN.out]
        rw [hid] at rh18
        have HGH := Lib.hid (idHint_good HGP.out)
        have b018 := HBW.out.trans (hb18.mono HBW.out.size)
        obtain ⟨w19, hw19⟩ : ∃ x', x' = w18.alloc (.cells #[.slice ho' hv.length hc'] 30) := ⟨_, rfl⟩
        have b19 : Below w18.heap.size w18 w19 := by subst hw19; exact (Below.refl _ _).alloc (Nat.le_refl _) _
        have br := hb18.trans (b19.mono hb18.size)
        have b019 := b018.trans (b19.mono b018.size)
        have q19 := fun P' => accepted_cps _ _ _ (.slice (some ⟨pg, 0, none⟩) n pc) (.slice (some ⟨qg, 0, none⟩) n qc) (.slice ho' hv.length hc') w19 (HRDP.out.keep br) (HRDQ.out.keep br) (rh18.keep b19) HGP.out HGQ.out HGH.out (HTB.out.keep b019) HTV.out P'
        have rP19 := HRP.out.keep br
        have rQ19 := HRQ.out.keep br
        have rH19 : Row w19 w18.heap.size 30 [.slice ho' hv.length hc'] := by subst hw19; exact heap_alloc_new w18 _
        clear e0 e1 e2 e3 e4
        have u0 := rP19.cell (i := 0) rfl
        have v0 := rQ19.cell (i := 0) rfl
        have u1 := rP19.cell (i := 1) rfl
        have v1 := rQ19.cell (i := 1) rfl
        have u2 := rP19.cell (i := 2) rfl
        have v2 := rQ19.cell (i := 2) rfl
        have u3 := rP19.cell (i := 3) rfl
        have v3 := rQ19.cell (i := 3) rfl
        have u4 := rP19.cell (i := 4) rfl
        have v4 := rQ19.cell (i := 4) rfl
        have hh0 := rH19.cell (i := 0) rfl
        have HB19 := Lib.hid b019
        rw [hw19] at q19 HB19 hh0 u0 v0 u1 v1 u2 v2 u3 v3 u4 v4
        clear q18 hd hoh hb18 rh18 hid b018 hw19 b19 br b019 rP19 rQ19 rH19 HRP HRQ HRDP HRDQ HBW HTV HGP HGQ HGH HW17
        go_wp2_with fail
        refine q19 _ ?_
        intro w20 hb20
        have HF := Lib.hid (HP.out w20 (HB19.out.trans (hb20.mono HB19.out.size)))
        clear q19 hb20 HB19 HP hh0 u0 v0 u1 v1 u2 v2 u3 v3 u4 v4
        go_wp2
        exact HF.out
  · have hne : (dk != 12) = true := by simp [hdk12]
    have HDK12 := Lib.hid hdk12
    clear hdk12
    have hS0 : ∃ x : Int, ShSt w W Pb a0 R a2 pg n pc so sn sc bv ∧ Row W Db 36 [.int .i64 dk, .int .i64 da, .int .i64 db, .int .i64 x] := ⟨0, HS.out, HD.out⟩
    have cA : ∀ V, (∃ x : Int, ShSt w V Pb a0 R a2 pg n pc so sn sc bv ∧ Row V Db 36 [.int .i64 dk, .int .i64 da, .int .i64 db, .int .i64 x]) → V.cell? ⟨Db, 1, none⟩ = some (.int .i64 da) := fun V h => by obtain ⟨x, _, h⟩ := h; exact h.cell (i := 1) rfl
    have cR : ∀ V, (∃ x : Int, ShSt w V Pb a0 R a2 pg n pc so sn sc bv ∧ Row V Db 36 [.int .i64 dk, .int .i64 da, .int .i64 db, .int .i64 x]) → V.cell? ⟨Pb, 1, none⟩ = some (.int .i64 (R : Int)) := fun V h => by obtain ⟨x, h, _⟩ := h; exact h.rowP.cell (i := 1) rfl
    have cX : ∀ V, (∃ x : Int, ShSt w V Pb a0 R a2 pg n pc so sn sc bv ∧ Row V Db 36 [.int .i64 dk, .int .i64 da, .int .i64 db, .int .i64 x]) → ∃ u, V.cell? ⟨Db, 3, none⟩ = some u := fun V h => by obtain ⟨x, _, h⟩ := h; exact ⟨_, h.cell (i := 3) rfl⟩
    have cF : ∀ V, (∃ x : Int, ShSt w V Pb a0 R a2 pg n pc so sn sc bv ∧ Row V Db 36 [.int .i64 dk, .int .i64 da, .int .i64 db, .int .i64 x]) → V.frozen? ⟨Db, 3, none⟩ = false := fun V h => by obtain ⟨x, _, h⟩ := h; exact h.frozen 3
    have kd : Below W.heap.size W W.drew := (Below.refl _ _).drew
    have S1 := HS.out.keep kd
    have D1 := HD.out.keep kd
    have hS1 : ∃ x : Int, ShSt w W.drew Pb a0 R a2 pg n pc so sn sc bv ∧ Row W.drew Db 36 [.int .i64 dk, .int .i64 da, .int .i64 db, .int .i64 x] := ⟨0, S1, D1⟩
    obtain ⟨rk, hro⟩ := S1.rolls
    have q3 := fun P' => next_cps (Pb + 1) so sn sc rk ((R : Int) - 1) W.drew hro (by omega) P'
    have HS1 := Lib.hid S1
    have HD1 := Lib.hid D1
    have hwa : IntKind.i64.wrap (da + 1) = da + 1 := by rw [IntKind.wrap_i64]; omega
    have hws : IntKind.i64.wrap ((R : Int) - 1) = (R : Int) - 1 := by rw [IntKind.wrap_i64]; omega
    have hR0 : ¬ (R = 0) := by omega
    clear S1 D1 hro HS HD
    go_wp2
    go_region_held3 (fun V => ∃ x : Int, ShSt w V Pb a0 R a2 pg n pc so sn sc bv ∧ Row V Db 36 [.int .i64 dk, .int .i64 da, .int .i64 db, .int .i64 x]) (first | with_reducible exact hS1 | with_reducible exact hS3 | with_reducible exact hS4) (first | (go_at_call 13; refine q3 _ ?_; intro y rk3 w3 hy0 hy1 hr3 hk3 hz3; have S3 := HS1.out.roll hr3 hk3; have D3 := HD1.out.kept hk3 (by omega); have dcc := D3.cell (i := 3) rfl; have dcf := D3.frozen 3; have hS3 : ∃ x : Int, ShSt w w3 Pb a0 R a2 pg n pc so sn sc bv ∧ Row w3 Db 36 [.int .i64 dk, .int .i64 da, .int .i64 db, .int .i64 x] := ⟨0, S3, D3⟩; have hwy : IntKind.i64.wrap (da + 1 + y) = da + 1 + y := (by rw [IntKind.wrap_i64]; omega); obtain ⟨dc, hdv⟩ : ∃ dc, dc = (da + 1 + y).tmod (R : Int) := ⟨_, rfl⟩; have hmo := mod_other (R := (R : Int)) ⟨hda0, hda1⟩ ⟨hy0, hy1⟩; rw [← hdv] at hmo; have htm : (da + 1 + y).tmod (R : Int) = dc := hdv.symm; clear hdv; have S4 := S3.set HSW.out (i := 3) hDb (.int .i64 dc); have D4 := D3.set 3 (.int .i64 dc); simp only [List.set_cons_succ, List.set_cons_zero] at D4; have hS4 : ∃ x : Int, ShSt w (w3.setCell ⟨Db, 3, none⟩ (.int .i64 dc)) Pb a0 R a2 pg n pc so sn sc bv ∧ Row (w3.setCell ⟨Db, 3, none⟩ (.int .i64 dc)) Db 36 [.int .i64 dk, .int .i64 da, .int .i64 db, .int .i64 x] := ⟨dc, S4, D4⟩))
    try clear d0c
    clear hS0 hS1 HS1 HD1 kd q3 hr3 hk3 hz3 W
    obtain ⟨W, hW'⟩ : ∃ x, x = w3.setCell ⟨Db, 3, none⟩ (.int .i64 dc) := ⟨_, rfl⟩
    rw [← hW'] at S4 D4 ⊢
    obtain ⟨dc0, dc1, dcn⟩ := hmo
    have HS := Lib.hid S4
    have HD := Lib.hid D4
    clear cA cR cX cF hwa hws hR0 S3 D3 dcc dcf hS3 hwy htm hS4 hy0 hy1 S4 D4 hW'
    have hSD : Hid (ShD (R : Int) ⟨dk, da, db, dc⟩) := ⟨hdkr, by have e := HDK12.out; unfold opGood; rw [if_neg (by show ¬ dk = 1; omega), if_pos (by show 3 ≤ dk ∧ dk ≤ 11; omega)]; simp only [Bool.and_eq_true, below, decide_eq_true_eq]; omega, dbn, fun _ => dcn⟩
    have d0 := HD.out.cell (i := 0) rfl
    have d1 := HD.out.cell (i := 1) rfl
    have d2 := HD.out.cell (i := 2) rfl
    have d3 := HD.out.cell (i := 3) rfl
    have hzW : Db + 1 ≤ W.heap.size := HD.out.lt
    obtain ⟨W1, hW1⟩ : ∃ x, x = W.alloc (.cells #[.int .i64 dk, .int .i64 da, .int .i64 db, .int .i64 dc] 36) := ⟨_, rfl⟩
    have bW1 : Below W.heap.size W W1 := by subst hW1; exact (Below.refl _ _).alloc (Nat.le_refl _) _
    have S1 := HS.out.keep bW1
    have D1 := HD.out.keep bW1
    have l1 : W1.ownsRow (Db + 1) 36 4 (.slice (some ⟨W.heap.size, 0, none⟩) 1 1) 1 (opCells [⟨dk, da, db, dc⟩]) := by subst hW1; exact owns_one hzW _ _ _ _ _
    have hz1 : Db + 1 ≤ W1.heap.size := Nat.le_trans hzW bW1.size
    have hbq : b < bv.length := by rw [← HN.out]; exact hbn
    have HS1 := Lib.hid S1
    have HW1 := Lib.hid hW1
    have hb0 : (0 : Int) ≤ (b : Int) := by omega
    have hbn' : (b : Int) < (n : Int) := by omega
    obtain ⟨ops, hopse⟩ : ∃ ops, ops = bv[b].1.ops := ⟨_, rfl⟩
    have HOPS : Hid (ops = bv[b].1.ops) := hopse
    obtain ⟨uo, uc, hsv⟩ := owns_slice (S1.ownP.each _ (List.getElem_mem hbq))
    rw [← hopse] at hsv
    obtain ⟨on, hon⟩ : ∃ on, on = ops.length := ⟨_, rfl⟩
    have hon5 : on ≤ 5 := by
      have h1 := HSP.out b (by rw [bdat_length]; exact hbq)
      rw [(bdat_get bv hbq).1, ← hopse, ← hon] at h1
      omega
    have HON := Lib.hid hon
    have HSV := Lib.hid hsv
    clear HS HD bW1 S1 hW1 hopse hsv hon
    go_wp2
    rw [← HW1.out]
    clear HW1 d0 d1 d2 d3
    try clear d0c
    go_loopw [9, 10] (fun lv iv wi => ∃ (i : Nat) (lk : List OpD), i ≤ on ∧ iv = .int .i64 i ∧ ShSt w wi Pb a0 R a2 pg n pc so sn sc bv ∧ Row wi Db 36 [.int .i64 dk, .int .i64 da, .int .i64 db, .int .i64 dc] ∧ wi.ownsRow (Db + 1) 36 4 lv (lk.length + 1) (opCells (⟨dk, da, db, dc⟩ :: lk)) ∧ Hid (∀ o ∈ lk, opGood (R : Int) 0 o = true ∧ keepK ⟨dk, da, db, dc⟩ o) ∧ lk.length ≤ i ∧ Db + 1 ≤ wi.heap.size)
      (fun _ iv _ => on - (intOf iv).toNat)
    case atStart => exact ⟨0, [], by omega, rfl, HS1.out, D1, l1, fun o ho => by (cases ho), by simp, hz1⟩
    case round =>
      clear HS1 D1 l1 hz1 hzW
      rename World => wi
      obtain ⟨i, lk, hi, rfl, S, rD, lown, hlk, hlen, hzi⟩ := hrel
      obtain ⟨pg', epg, _, cp0, _⟩ := ownBlocks_at S.ownP hbq
      simp only [Option.some.injEq, Addr.mk.injEq, and_true] at epg
      subst epg
      rw [HSV.out, ← HON.out] at cp0
      have p4 := S.rowP.cell (i := 4) rfl
      obtain ⟨lo, lc, rfl⟩ := owns_slice lown
      by_cases hio : i < on
      · have hrow := S.ownP.each _ (List.getElem_mem hbq)
        rw [← HOPS.out, HSV.out] at hrow
        have hil : i < ops.length := by rw [← HON.out]; exact hio
        obtain ⟨g, hlo, hgB, gx0, gx1, gx2, gx3, _⟩ := owns_ops_at hrow hil
        subst hlo
        obtain ⟨X, hX⟩ : ∃ X, X = ops.getD i oz := ⟨_, rfl⟩
        simp only [okind, oa, ob, oc] at gx0 gx1 gx2 gx3
        rw [← hX] at gx0 gx1 gx2 gx3
        have HXG : Hid (opGood (R : Int) 0 X = true) := by
          show _ = _
          have gb := good_at HG.out (b := b) (by rw [bdat_length]; exact hbq)
          simp only [blockGood, Bool.and_eq_true, opsGood, List.all_eq_true] at gb
          refine gb.1.2 X ?_
          rw [(bdat_get bv hbq).1, ← HOPS.out, hX]
          exact getD_mem' hil
        obtain ⟨x0, x1, x2, x3⟩ := X
        dsimp only at gx0 gx1 gx2 gx3
        have hi0 : (0 : Int) ≤ (i : Int) := by omega
        have hin : (i : Int) < (on : Int) := by omega
        obtain ⟨w4, hw4⟩ : ∃ x, x = wi.alloc (.cells #[.int .i64 x0, .int .i64 x1, .int .i64 x2, .int .i64 x3] 36) := ⟨_, rfl⟩
        have b4 : Below wi.heap.size wi w4 := by subst hw4; exact (Below.refl _ _).alloc (Nat.le_refl _) _
        have rO4 : Row w4 wi.heap.size 36 [.int .i64 x0, .int .i64 x1, .int .i64 x2, .int .i64 x3] := by subst hw4; exact heap_alloc_new wi _
        have q5 := fun P' => kWrites_cps x0 x1 x2 x3 w4 P'
        have HB4 := Lib.hid b4
        have HRO4 := Lib.hid rO4
        have oo0 := rO4.cell (i := 0) rfl
        have oo1 := rO4.cell (i := 1) rfl
        have oo2 := rO4.cell (i := 2) rfl
        have oo3 := rO4.cell (i := 3) rfl
        have HW4 := Lib.hid hw4
        rw [hw4] at q5 oo0 oo1 oo2 oo3
        have HS := Lib.hid S
        have HD := Lib.hid rD
        have HL := Lib.hid lown
        clear S rD lown hrow hX hgB hil hw4 rO4 b4
        go_wp2_with fail
        refine q5 _ ?_
        rw [← HW4.out]
        intro w5 b5
        have b05 := HB4.out.trans (b5.mono HB4.out.size)
        obtain ⟨wv, hwv⟩ : ∃ wv, wv = writesK ⟨x0, x1, x2, x3⟩ := ⟨_, rfl⟩
        rw [← hwv]
        have HWV := Lib.hid hwv
        have rD5 := HD.out.keep b05
        have rO5 := HRO4.out.keep b5
        have dd0 := rD5.cell (i := 0) rfl
        have dd1 := rD5.cell (i := 1) rfl
        have dd2 := rD5.cell (i := 2) rfl
        have dd3 := rD5.cell (i := 3) rfl
        have q6 := fun P' => kReads_cps dk da db dc wv w5 P'
        have HB05 := Lib.hid b05
        have HRO5 := Lib.hid rO5
        clear q5 hwv b05 b5 rD5 rO5 oo0 oo1 oo2 oo3 HB4 HRO4 HW4 gx0 gx1 gx2 gx3 cp0 p4
        go_wp2_with fail
        refine q6 _ ?_
        intro z w6 hzz b6
        have b06 := HB05.out.trans (b6.mono HB05.out.size)
        have HZZ := Lib.hid hzz
        have S6 := HS.out.keep b06
        have rD6 := HD.out.keep b06
        have rO6 := HRO5.out.keep b6
        have lown6 := owns_below HL.out b06 (Nat.le_refl _)
        have hz6 : Db + 1 ≤ w6.heap.size := Nat.le_trans hzi b06.size
        clear q6 dd0 dd1 dd2 dd3 hzz b6 b06 HS HD HL HB05 HRO5 hzi
        have dd0 := rD6.cell (i := 0) rfl
        have dd1 := rD6.cell (i := 1) rfl
        have dd2 := rD6.cell (i := 2) rfl
        have dd3 := rD6.cell (i := 3) rfl
        have o0 := rO6.cell (i := 0) rfl
        have o1 := rO6.cell (i := 1) rfl
        have o2 := rO6.cell (i := 2) rfl
        have o3 := rO6.cell (i := 3) rfl
        have HS6 := Lib.hid S6
        have HD6 := Lib.hid rD6
        clear S6 rD6 rO6
        have k12 : (dk == 12) = false := by simp [HDK12.out]
        by_cases c1 : wv = da
        · have c1n : (wv != da) = false := by simp [c1]
          have HC1 := Lib.hid c1
          clear c1
          cases z with
          | true =>
            clear HXG
            go_wp2
            go_roundw
            case rel => exact ⟨i + 1, lk, by omega, by go_num, HS6.out, HD6.out, lown6, hlk, by omega, hz6⟩
            case measure => simp [intOf]; omega
          | false =>
            clear HXG
            go_wp2
            go_roundw
            case rel => exact ⟨i + 1, lk, by omega, by go_num, HS6.out, HD6.out, lown6, hlk, by omega, hz6⟩
            case measure => simp [intOf]; omega
        · have c1n : (wv != da) = true := by simp [c1]
          have HC1 := Lib.hid c1
          clear c1
          cases z with
          | true =>
            clear HXG
            go_wp2
            go_roundw
            case rel => exact ⟨i + 1, lk, by omega, by go_num, HS6.out, HD6.out, lown6, hlk, by omega, hz6⟩
            case measure => simp [intOf]; omega
          | false =>
            have HKP : Hid (keepK ⟨dk, da, db, dc⟩ ⟨x0, x1, x2, x3⟩) := ⟨by rw [← HWV.out]; exact HC1.out, fun c => (by have := HZZ.out.2 (by rw [HWV.out]; exact c); cases this), fun c => HDK12.out c.1⟩
            go_wp2_with (at_builtin; refine wpList_append_own _ rfl _ _ 34 rfl (Db + 1) 36 k0 (.agg #[.int .i64 0, .int .i64 0, .int .i64 0, .int .i64 0]) 4 32 Tryz.underlying34 ki kz0 kz1 kz2 rfl (by decide) _ _ _ rfl (lown6.alloc _) ⟨w6.heap.size, 0, none⟩ 1 1 [.int .i64 x0, .int .i64 x1, .int .i64 x2, .int .i64 x3] rfl rfl ?e1 four_one ?e3 ?e4 ?e5 ?_)
            try (case e1 => simpa using four_new w6 _ _ _ _ _)
            try (case e3 => unfold maxLen; omega)
            try (case e4 => omega)
            try (case e5 => first | omega | (simp; omega))
            intro v7 w7 hown7 hgrow7 _
            rw [← opCells_snoc] at hown7
            have b7 := ((Below.refl (Db + 1) w6).alloc hz6 (.cells #[.int .i64 x0, .int .i64 x1, .int .i64 x2, .int .i64 x3] 36)).grown hgrow7 (by simp; omega) (fun g hg => (lown6.lt g hg).1)
            have D7 := HD6.out.below b7 (by omega)
            have S7 := HS6.out.grow HSW.out b7 (by omega)
            have hz7 : Db + 1 ≤ w7.heap.size := Nat.le_trans hz6 b7.size
            obtain ⟨lo7, lc7, rfl⟩ := owns_slice hown7
            have HS7 := Lib.hid S7
            have HK : Hid (∀ o ∈ lk ++ [⟨x0, x1, x2, x3⟩], opGood (R : Int) 0 o = true ∧ keepK ⟨dk, da, db, dc⟩ o) := fun o ho => by
              rw [List.mem_append, List.mem_singleton] at ho
              rcases ho with ho | rfl
              · exact hlk.out o ho
              · exact ⟨HXG.out, HKP.out⟩
            clear S7 hgrow7 b7 HS6 HD6 lown6 hlk HXG HKP o0 o1 o2 o3 dd0 dd1 dd2 dd3
            go_wp2
            go_roundw
            case rel => exact ⟨i + 1, lk ++ [⟨x0, x1, x2, x3⟩], by omega, by go_num, HS7.out, D7, by simpa using hown7, HK, by simp; omega, hz7⟩
            case measure => simp [intOf]; omega
      · have S8 := S
        have dd0 := rD.cell (i := 0) rfl
        have dd1 := rD.cell (i := 1) rfl
        have dd2 := rD.cell (i := 2) rfl
        have dd3 := rD.cell (i := 3) rfl
        obtain ⟨w8, hw8⟩ : ∃ x, x = wi.alloc (.cells #[.int .i64 dk, .int .i64 da, .int .i64 db, .int .i64 dc] 36) := ⟨_, rfl⟩
        have b8 : Below wi.heap.size wi w8 := by subst hw8; exact (Below.refl _ _).alloc (Nat.le_refl _) _
        have rA8 : Row w8 wi.heap.size 36 [.int .i64 dk, .int .i64 da, .int .i64 db, .int .i64 dc] := by subst hw8; exact heap_alloc_new wi _
        have S8 := S.keep b8
        have D8 := rD.keep b8
        have l8 := owns_below lown b8 (Nat.le_refl _)
        have hlb : ∀ g, (Value.slice lo (lk.length + 1) lc).ownBlock = some g → Db + 1 ≤ g ∧ g < wi.heap.size := fun g hg => lown.lt g hg
        have p1 := S8.rowP.cell (i := 1) rfl
        obtain ⟨rk8, hro8⟩ := S8.rolls
        have q8 := fun P' => next_cps (Pb + 1) so sn sc rk8 (R : Int) w8 hro8 (by omega) P'
        have HS8 := Lib.hid S8
        have HD8 := Lib.hid D8
        have HA8 := Lib.hid rA8
        have HL8 := Lib.hid l8
        have HW8 := Lib.hid hw8
        rw [hw8] at q8 p1
        clear S S8 rD lown b8 rA8 D8 l8 hro8 hw8
        go_wp2_with fail
        refine q8 _ ?_
        rw [← HW8.out]
        intro x rk9 w9 hx0 hx1 hr9 hk9 hz9
        have S9 := HS8.out.roll hr9 hk9
        have D9 := HD8.out.kept hk9 (by omega)
        have A9 := HA8.out.kept hk9 (by omega)
        have l9 := owns_same HL8.out (fun g hg => hk9.block g (HL8.out.lt g hg).2 (by have := hlb g hg; omega))
        have hz98 : wi.heap.size + 1 ≤ w9.heap.size := by rw [hz9, HW8.out]; simp
        obtain ⟨Ab, hAb⟩ : ∃ Ab, Ab = wi.heap.size := ⟨_, rfl⟩
        rw [← hAb] at A9 hlb hz98 ⊢
        have hAD : Db + 1 ≤ Ab := by rw [hAb]; exact hzi
        clear hAb
        have ac1 := A9.cell (i := 1) rfl
        have af1 := A9.frozen 1
        have S10 := S9.set HSW.out (g := Ab) (i := 1) (by omega) (.int .i64 x)
        have D10 := D9.unset (a := ⟨Ab, 1, none⟩) (by show Db ≠ Ab; omega) (.int .i64 x)
        have A10 := A9.set 1 (.int .i64 x)
        simp only [List.set_cons_succ, List.set_cons_zero] at A10
        have l10 := owns_unset l9 (g := Ab) (i := 1) (fun e => by have := hlb Ab e; omega) (.int .i64 x)
        obtain ⟨w10, hw10⟩ : ∃ x', x' = w9.setCell ⟨Ab, 1, none⟩ (.int .i64 x) := ⟨_, rfl⟩
        have hz10 : Ab + 1 ≤ w10.heap.size := by rw [hw10]; simpa using hz98
        rw [← hw10] at S10 D10 A10 l10
        have rdp := OwnBlocks.rd S10.ownP
        have hln : n = (bdat bv).length := by rw [bdat_length]; exact HN.out
        have q11 := fun P' => clone_cps a0 (R : Int) a2 0 (some ⟨pg, 0, none⟩) pc (bdat bv) w10 (by rw [← hln]; exact rdp) (by omega) (fun b hb => by have := HSP.out b hb; omega) P'
        rw [← hln] at q11
        have e0 := S10.rowP.cell (i := 0) rfl
        have e1 := S10.rowP.cell (i := 1) rfl
        have e2 := S10.rowP.cell (i := 2) rfl
        have e3 := S10.rowP.cell (i := 3) rfl
        have e4 := S10.rowP.cell (i := 4) rfl
        have HS10 := Lib.hid S10
        have HD10 := Lib.hid D10
        have HA10 := Lib.hid A10
        have HL10 := Lib.hid l10
        have HLN := Lib.hid hln
        have HW10 := Lib.hid hw10
        rw [hw10] at q11 e0 e1 e2 e3 e4
        clear q8 hr9 hk9 hz9 S9 D9 A9 l9 S10 D10 A10 l10 rdp hln hw10 HS8 HD8 HA8 HL8 HW8 p1 dd0 dd1 dd2 dd3 cp0 p4
        go_wp2_with fail
        refine q11 _ ?_
        rw [← HW10.out]
        intro v qv w11 hd11 hoq hb11
        obtain ⟨qo, qc, hv⟩ := owns_slice hoq.row
        have hqn : qv.length = n := by
          have h1 := congrArg List.length hd11.out
          rw [bdat_length, ← HLN.out] at h1
          exact h1
        rw [hqn] at hv
        subst hv
        obtain ⟨qg, hqo, hjunk⟩ := ownBlocks_at hoq (i := 0) (by omega)
        clear hjunk
        subst hqo
        have hqg := hoq.row.lt qg rfl
        obtain ⟨w12, hw12⟩ : ∃ x', x' = w11.alloc (.cells #[.int .i64 a0, .int .i64 (R : Int), .int .i64 a2, .int .i64 0, .slice (some ⟨qg, 0, none⟩) n qc] 25) := ⟨_, rfl⟩
        have b12 : Below w11.heap.size w11 w12 := by subst hw12; exact (Below.refl _ _).alloc (Nat.le_refl _) _
        have rQ12 : Row w12 w11.heap.size 25 [.int .i64 a0, .int .i64 (R : Int), .int .i64 a2, .int .i64 0, .slice (some ⟨qg, 0, none⟩) n qc] := by subst hw12; exact heap_alloc_new w11 _
        have b1012 := hb11.trans (b12.mono hb11.size)
        have S12 := HS10.out.keep b1012
        have D12 := HD10.out.keep b1012
        have A12 := HA10.out.keep b1012
        have l12 := owns_below HL10.out b1012 (Nat.le_refl _)
        have oq12 := hoq.below b12 (Nat.le_refl _)
        have hz12 : w10.heap.size ≤ w11.heap.size := hb11.size
        have hz12' : w11.heap.size < w12.heap.size := rQ12.lt
        have hsrc := owns_src l12 (ops_oneCell _)
        have HQ12 := Lib.hid rQ12
        have HO12 := Lib.hid oq12
        have HDQ : Hid (bdat qv = bdat bv) := hd11.out
        have HS12 := Lib.hid S12
        have HD12 := Lib.hid D12
        have HA12 := Lib.hid A12
        have HL12 := Lib.hid l12
        have HW12 := Lib.hid hw12
        rw [hw12] at hsrc
        clear q11 HW10 hd11 hoq hb11 b12 rQ12 b1012 S12 D12 A12 l12 oq12 HS10 HD10 HA10 HL10 hw12 e0 e1 e2 e3 e4 ac1 af1
        go_wp2_with (at_builtin; refine wpList_append_any _ rfl _ _ 34 rfl w12.heap.size 36 k0 (.agg #[.int .i64 0, .int .i64 0, .int .i64 0, .int .i64 0]) 4 32 Tryz.underlying34 ki kz0 kz1 kz2 rfl (by decide) _ _ _ rfl (World.ownsRow_nil _ _ _ _) _ _ _ rfl hsrc ?g3 ?g4 ?g5 ?_)
        try (case g3 => unfold maxLen; omega)
        try (case g4 => omega)
        try (case g5 => rw [HW12.out]; exact Nat.le_refl _)
        rw [← HW12.out]
        intro v13 w13 hown13 hgrow13
        try simp only [Nat.zero_add, List.nil_append] at hown13
        have b13 := (Below.refl w12.heap.size w12).grown hgrow13 (Nat.le_refl _) (fun g hg => by simp [Value.ownBlock] at hg)
        have hz13 := b13.size
        obtain ⟨mo13, mc13, rfl⟩ := owns_slice hown13
        have a1c := (HA12.out.keep b13).cell (i := 1) rfl
        have d1c := (HD12.out.keep b13).cell (i := 1) rfl
        clear hsrc hgrow13 HW12
        go_wp2_with (at_builtin; refine wpList_append_own _ rfl _ _ 34 rfl w12.heap.size 36 k0 (.agg #[.int .i64 0, .int .i64 0, .int .i64 0, .int .i64 0]) 4 32 Tryz.underlying34 ki kz0 kz1 kz2 rfl (by decide) _ _ _ rfl (hown13.alloc _) ⟨w13.heap.size, 0, none⟩ 1 1 [.int .i64 2, .int .i64 x, .int .i64 da, .int .i64 0] rfl rfl ?e1 four_one ?e3 ?e4 ?e5 ?_)
        try (case e1 => simpa using four_new w13 _ _ _ _ _)
        try (case e3 => unfold maxLen; omega)
        try (case e4 => omega)
        try (case e5 => first | omega | (simp; omega))
        intro v14 w14 hown14 hgrow14 _
        rw [← opCells_snoc] at hown14
        have b14 := (b13.alloc hz13 (.cells #[.int .i64 2, .int .i64 x, .int .i64 da, .int .i64 0] 36)).grown hgrow14 (by simp; omega) (fun g hg => (hown13.lt g hg).1)
        have hz14 := b14.size
        obtain ⟨mo14, mc14, rfl⟩ := owns_slice hown14
        have S14 := HS12.out.keep b14
        have D14 := HD12.out.keep b14
        have A14 := HA12.out.keep b14
        have l14 := owns_below HL12.out b14 (Nat.le_refl _)
        have oq14 := HO12.out.below b14 (Nat.le_refl _)
        have rQ14 := HQ12.out.keep b14
        have hbqq : b < qv.length := by rw [hqn]; exact hbn
        obtain ⟨qg', eqg, _, cq0, _, _, _, _, cqf⟩ := ownBlocks_at oq14 hbqq
        simp only [Option.some.injEq, Addr.mk.injEq, and_true] at eqg
        subst eqg
        have cqf0 := cqf (b * 5)
        have q4 := rQ14.cell (i := 4) rfl
        have EQ : ⟨dk, da, db, dc⟩ :: lk ++ [⟨2, x, da, 0⟩] = shQ ⟨dk, da, db, dc⟩ lk x := rfl
        have hshq : (shQ ⟨dk, da, db, dc⟩ lk x).length = lk.length + 1 + 1 := by simp [shQ]
        have hown14' : w14.ownsRow w12.heap.size 36 4 (.slice mo14 (lk.length + 1 + 1) mc14) (shQ ⟨dk, da, db, dc⟩ lk x).length (opCells (shQ ⟨dk, da, db, dc⟩ lk x)) := by rw [hshq]; exact hown14
        have hqlow : ∀ y ∈ qv, ∀ g, y.2.ownBlock = some g → g < w12.heap.size := fun y hy g hg => ((HO12.out.each y hy).lt g hg).2
        have oq15 := oq14.setOps hbqq (owns_base hown14' (show w10.heap.size ≤ w12.heap.size by omega)) (fun y hy g hg e => by have q1 := hqlow y hy g hg; have q2 := (hown14'.lt g e).1; omega)
        have S15 := S14.set HSW.out (g := qg) (i := b * 5) (by omega) (.slice mo14 (lk.length + 1 + 1) mc14)
        have D15 := D14.unset (a := ⟨qg, b * 5, none⟩) (by show Db ≠ qg; omega) (.slice mo14 (lk.length + 1 + 1) mc14)
        have A15 := A14.unset (a := ⟨qg, b * 5, none⟩) (by show Ab ≠ qg; omega) (.slice mo14 (lk.length + 1 + 1) mc14)
        have rQ15 := rQ14.unset (a := ⟨qg, b * 5, none⟩) (by show w11.heap.size ≠ qg; omega) (.slice mo14 (lk.length + 1 + 1) mc14)
        have l15 := owns_unset l14 (g := qg) (i := b * 5) (fun e => by have := hlb qg e; omega) (.slice mo14 (lk.length + 1 + 1) mc14)
        have EB : Hid (bdat (qv.set b (⟨shQ ⟨dk, da, db, dc⟩ lk x, qv[b].1.fin⟩, .slice mo14 (lk.length + 1 + 1) mc14)) = (bdat bv).set b ⟨shQ ⟨dk, da, db, dc⟩ lk x, bfin (bdat bv) b⟩) := by
          show _ = _
          rw [bdat_set, ← HDQ.out, (bdat_get qv hbqq).2]
        obtain ⟨qv', hqv'⟩ : ∃ qv', qv' = qv.set b (⟨shQ ⟨dk, da, db, dc⟩ lk x, qv[b].1.fin⟩, .slice mo14 (lk.length + 1 + 1) mc14) := ⟨_, rfl⟩
        rw [← hqv'] at oq15 EB
        have hzs : (w14.setCell ⟨qg, b * 5, none⟩ (.slice mo14 (lk.length + 1 + 1) mc14)).heap.size = w14.heap.size := by simp
        obtain ⟨w15, hw15⟩ : ∃ x', x' = w14.setCell ⟨qg, b * 5, none⟩ (.slice mo14 (lk.length + 1 + 1) mc14) := ⟨_, rfl⟩
        rw [← hw15] at oq15 S15 D15 A15 rQ15 l15 hzs
        have ag0 := A15.cell (i := 0) rfl
        have ag1 := A15.cell (i := 1) rfl
        have ag2 := A15.cell (i := 2) rfl
        have ag3 := A15.cell (i := 3) rfl
        have HS15 := Lib.hid S15
        have HO15 := Lib.hid oq15
        have HQ15 := Lib.hid rQ15
        have HW15 := Lib.hid hw15
        have hz15 : w11.heap.size < w15.heap.size := by omega
        have HZS := Lib.hid hzs
        have hqlo : ∀ y ∈ qv', ∀ g, y.2.ownBlock = some g → w10.heap.size ≤ g := fun y hy g hg => ((oq15.each y hy).lt g hg).1
        rw [hw15] at ag0 ag1 ag2 ag3
        clear hgrow14 hown13 b13 a1c d1c b14 S14 D14 A14 l14 oq14 rQ14 cqf EQ hshq hown14 hown14' hqlow oq15 S15 D15 A15 rQ15 hqv' hzs hw15 HS12 HD12 HA12 HL12 HO12 HQ12 HDQ
        go_wp2_with (at_builtin; rw [← HW15.out]; refine wpList_append_own _ rfl _ _ 34 rfl (Db + 1) 36 k0 (.agg #[.int .i64 0, .int .i64 0, .int .i64 0, .int .i64 0]) 4 32 Tryz.underlying34 ki kz0 kz1 kz2 rfl (by decide) _ _ _ rfl (l15.alloc _) ⟨w14.heap.size, 0, none⟩ 1 1 [.int .i64 dk, .int .i64 x, .int .i64 db, .int .i64 dc] rfl rfl ?n1 four_one ?n3 ?n4 ?n5 ?_)
        try (case n1 => rw [← HZS.out]; simpa using four_new w15 _ _ _ _ _)
        try (case n3 => unfold maxLen; omega)
        try (case n4 => omega)
        try (case n5 => first | omega | (simp; omega))
        intro v16 w16 hown16 hgrow16 _
        rw [← opCells_snoc] at hown16
        have b16 := ((Below.refl (Db + 1) w15).alloc (by omega) (.cells #[.int .i64 dk, .int .i64 x, .int .i64 db, .int .i64 dc] 36)).grown hgrow16 (by simp; omega) (fun g hg => (l15.lt g hg).1)
        have hz16 := b16.size
        obtain ⟨lo16, lc16, rfl⟩ := owns_slice hown16
        have hshp : (shP ⟨dk, da, db, dc⟩ lk x).length = lk.length + 1 + 1 := by simp [shP]
        have l16 : w16.ownsRow (Db + 1) 36 4 (.slice lo16 (lk.length + 1 + 1) lc16) (shP ⟨dk, da, db, dc⟩ lk x).length (opCells (shP ⟨dk, da, db, dc⟩ lk x)) := by rw [hshp]; exact hown16
        have hap : ∀ g, w10.heap.size ≤ g → (Value.slice lo (lk.length + 1) lc).ownBlock ≠ some g := fun g hg e => by have := hlb g e; omega
        have S16 := HS15.out.grow HSW.out b16 (by omega)
        have oq16 := (HO15.out.alloc (.cells #[.int .i64 dk, .int .i64 x, .int .i64 db, .int .i64 dc] 36)).grown hgrow16 (fun g hg => hap g ((HO15.out.row.lt g hg).1)) (fun y hy g hg => hap g (hqlo y hy g hg))
        have rQ16 := (HQ15.out.alloc (.cells #[.int .i64 dk, .int .i64 x, .int .i64 db, .int .i64 dc] 36)).same (hgrow16.block w11.heap.size (by simp; omega) (fun e => hap _ hz12 e.symm))
        obtain ⟨pg', epg, _, cp0, _, _, _, _, cpf⟩ := ownBlocks_at S16.ownP hbq
        simp only [Option.some.injEq, Addr.mk.injEq, and_true] at epg
        subst epg
        have cpf0 := cpf (b * 5)
        have p4 := S16.rowP.cell (i := 4) rfl
        have hPg := S16.pgl
        have hwPb := S16.pb
        have op17 := S16.ownP.setOps hbq (owns_base l16 (show w.heap.size ≤ Db + 1 by omega)) (fun y hy g hg e => by have q1 := S16.low y hy g hg; have q2 := (l16.lt g e).1; omega)
        have rP17 := S16.rowP.unset (a := ⟨pg, b * 5, none⟩) (by show Pb ≠ pg; omega) (.slice lo16 (lk.length + 1 + 1) lc16)
        have oq17 := oq16.setLow (a := ⟨pg, b * 5, none⟩) (by show pg < w10.heap.size; omega) (.slice lo16 (lk.length + 1 + 1) lc16)
        have rQ17 := rQ16.unset (a := ⟨pg, b * 5, none⟩) (by show w11.heap.size ≠ pg; omega) (.slice lo16 (lk.length + 1 + 1) lc16)
        have bel17 := S16.below.setCell (p := ⟨pg, b * 5, none⟩) S16.pgb (.slice lo16 (lk.length + 1 + 1) lc16)
        have EP : Hid (bdat (bv.set b (⟨shP ⟨dk, da, db, dc⟩ lk x, bv[b].1.fin⟩, .slice lo16 (lk.length + 1 + 1) lc16)) = (bdat bv).set b ⟨shP ⟨dk, da, db, dc⟩ lk x, bfin (bdat bv) b⟩) := by
          show _ = _
          rw [bdat_set, (bdat_get bv hbq).2]
        have rdp17 := OwnBlocks.rd op17
        have rdq17 := OwnBlocks.rd oq17
        rw [EP.out] at rdp17
        rw [EB.out] at rdq17
        obtain ⟨tg1, tg2, tv⟩ := share_twin HG.out (fun b hb => by have := HSP.out b hb; omega) (b := b) (by rw [bdat_length]; exact hbq) hSD.out hlk.out (by omega) (x := x) ⟨hx0, hx1⟩
        obtain ⟨w17, hw17⟩ : ∃ x', x' = w16.setCell ⟨pg, b * 5, none⟩ (.slice lo16 (lk.length + 1 + 1) lc16) := ⟨_, rfl⟩
        rw [← hw17] at rdp17 rdq17 rP17 rQ17 bel17
        have q18 := fun P' => identity_cps a0 (R : Int) a2 0 (some ⟨pg, 0, none⟩) n pc w17 (by omega) (by omega) (by omega) P'
        have e0 := rP17.cell (i := 0) rfl
        have e1 := rP17.cell (i := 1) rfl
        have e2 := rP17.cell (i := 2) rfl
        have e3 := rP17.cell (i := 3) rfl
        have e4 := rP17.cell (i := 4) rfl
        have HRP := Lib.hid rP17
        have HRQ := Lib.hid rQ17
        have HRDP := Lib.hid rdp17
        have HRDQ := Lib.hid rdq17
        have HBW := Lib.hid bel17
        have HTV := Lib.hid tv
        have HGP := Lib.hid tg1
        have HGQ := Lib.hid tg2
        have HW17 := Lib.hid hw17
        rw [hw17] at q18 e0 e1 e2 e3 e4
        clear hgrow16 hown16 b16 hshp l16 hap S16 oq16 rQ16 cpf op17 oq17 rP17 rQ17 bel17 EP EB rdp17 rdq17 tv tg1 tg2 hw17 HS15 HO15 HQ15 HW15 l15 ag0 ag1 ag2 ag3 hqlo q4 cq0 cqf0
        go_wp2_with fail
        refine q18 _ ?_
        rw [← HW17.out]
        intro v hv w18 hd hoh hb18
        obtain ⟨ho', hc', rfl⟩ := owns_slice hoh.row
        have rh18 := OwnHint.rd hoh
        rw [hd.out] at rh18
        have hid : idPings n ((R : Int)).toNat = idHint ⟨a0, R, a2, 0, (bdat bv).set b ⟨shP ⟨dk, da, db, dc⟩ lk x, bfin (bdat bv) b⟩⟩ := by rw [idHint_pings]; show idPings n _ = idPings ((bdat bv).set b _).length _; rw [List.length_set, ← HLN.out]
        rw [hid] at rh18
        have HGH := Lib.hid (idHint_good HGP.out)
        have b018 := HBW.out.trans (hb18.mono HBW.out.size)
        obtain ⟨w19, hw19⟩ : ∃ x', x' = w18.alloc (.cells #[.slice ho' hv.length hc'] 30) := ⟨_, rfl⟩
        have b19 : Below w18.heap.size w18 w19 := by subst hw19; exact (Below.refl _ _).alloc (Nat.le_refl _) _
        have br := hb18.trans (b19.mono hb18.size)
        have b019 := b018.trans (b19.mono b018.size)
        have q19 := fun P' => accepted_cps _ _ _ (.slice (some ⟨pg, 0, none⟩) n pc) (.slice (some ⟨qg, 0, none⟩) n qc) (.slice ho' hv.length hc') w19 (HRDP.out.keep br) (HRDQ.out.keep br) (rh18.keep b19) HGP.out HGQ.out HGH.out (HTB.out.keep b019) HTV.out P'
        have rP19 := HRP.out.keep br
        have rQ19 := HRQ.out.keep br
        have rH19 : Row w19 w18.heap.size 30 [.slice ho' hv.length hc'] := by subst hw19; exact heap_alloc_new w18 _
        clear e0 e1 e2 e3 e4
        have u0 := rP19.cell (i := 0) rfl
        have v0 := rQ19.cell (i := 0) rfl
        have u1 := rP19.cell (i := 1) rfl
        have v1 := rQ19.cell (i := 1) rfl
        have u2 := rP19.cell (i := 2) rfl
        have v2 := rQ19.cell (i := 2) rfl
        have u3 := rP19.cell (i := 3) rfl
        have v3 := rQ19.cell (i := 3) rfl
        have u4 := rP19.cell (i := 4) rfl
        have v4 := rQ19.cell (i := 4) rfl
        have hh0 := rH19.cell (i := 0) rfl
        have HB19 := Lib.hid b019
        rw [hw19] at q19 HB19 hh0 u0 v0 u1 v1 u2 v2 u3 v3 u4 v4
        clear q18 hd hoh hb18 rh18 hid b018 hw19 b19 br b019 rP19 rQ19 rH19 HRP HRQ HRDP HRDQ HBW HTV HGP HGQ HGH HW17
        go_wp2_with fail
        refine q19 _ ?_
        intro w20 hb20
        have HF := Lib.hid (HP.out w20 (HB19.out.trans (hb20.mono HB19.out.size)))
        clear q19 hb20 HB19 HP hh0 u0 v0 u1 v1 u2 v2 u3 v3 u4 v4
        go_wp2
        exact HF.out

end Go.Proofs.YtblhmeidbjigaabGreatDoor
