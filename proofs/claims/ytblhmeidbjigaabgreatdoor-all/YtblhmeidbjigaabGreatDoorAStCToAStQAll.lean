/- The step DecodeHint of All. -/
import Derived.Test.YtblhmeidbjigaabGreatDoorRows
import Derived.WalkKit
import Derived.WalkSpells
import Derived.WalkLawsBesides
import Derived.Laws.BytesArg
import Derived.Deep.QuietTactic
import Derived.BigQuiet
import Derived.Deep.RegionHeld3
import Derived.Lib.ItoaNum
import Derived.Lib.ItoaLen
import Derived.OpenShut
import Derived.Maps.AppendAt
import Derived.Shelf.Strconv.Itoa3
import Derived.Shelf.Lay
import Derived.Ground.NamesProg
import Derived.Lib.SmallJoins
import Derived.Lib.Hide
import Derived.StillTailTactics
import Derived.ProofKit
import Derived.SizedLaws
import Derived.Deep.Slices
import Derived.ShutString
import Derived.ChangeOld
import Derived.Deep.Strs
import Derived.Test.YtblhmeidbjigaabGreatDoorARanToAStBAll

set_option linter.unusedSimpArgs false
set_option linter.unusedVariables false
namespace Go.Proofs.YtblhmeidbjigaabGreatDoor
open Go.RowKit Go.Deep

set_option maxRecDepth 100000 in
set_option maxHeartbeats 4000000 in
theorem step_4 (w0 w : World) (n : Nat) (o : StepD) (val : Nat → Value) (cnt : Nat → Nat) (cel : Nat → List Value) (ps : List PI) (hs : List HI) (os : List OI) (ms : List MI) (h : ASt w0 w n val cnt cel ps hs os ms) (hok : OkStep w0 o) (hn9 : n ≤ 628292358710) (htab : TabW w0) (Post : Ending → World → Prop) (hk : o.kind = 4)
    (hp : ∀ w' val' cnt' cel' ps' hs' os' ms', ASt w0 w' (n + 1) val' cnt' cel' ps' hs' os' ms' → Post (.returned (.bool true)) w') :
    Calls Tryz.prog 28 #[.pointer (some ⟨w0.heap.size, 0, none⟩), .agg (stepC o).toArray] w Post := by
  obtain ⟨i0, ii, iz0, iz1, iz2⟩ := info_parts Tryz.infoHintA
  obtain ⟨kd, s, t, hh, a0, a1, a2, a3, pv, bl, hv, hl, av, mv, sv, la, lm, ls, a, b⟩ := o
  dsimp only at hk
  subst hk
  obtain ⟨zs, zt, zh, kp, kpl, kpo, kg, kgl, kgo, kra, krm, krs, kla, klm, kls⟩ := hok
  dsimp only at zs zt zh kp kpl kpo kg kgl kgo kra krm krs kla klm kls
  obtain ⟨po, pc, rfl, _, _⟩ := id kp
  obtain ⟨ho, hc, rfl, _, _⟩ := id kg
  obtain ⟨ao, ac, rfl, _, _⟩ := id kra
  obtain ⟨mo, mc, rfl, _, _⟩ := id krm
  obtain ⟨so, sc, rfl, _, _⟩ := id krs
  obtain ⟨bn, hbn⟩ : ∃ x, x = bl.length := ⟨_, rfl⟩
  obtain ⟨hn, hhn⟩ : ∃ x, x = hl.length := ⟨_, rfl⟩
  obtain ⟨an, han⟩ : ∃ x, x = la.length := ⟨_, rfl⟩
  obtain ⟨mn, hmn⟩ : ∃ x, x = lm.length := ⟨_, rfl⟩
  obtain ⟨sn, hsn⟩ : ∃ x, x = ls.length := ⟨_, rfl⟩
  show Calls Tryz.prog 28 #[.pointer (some ⟨w0.heap.size, 0, none⟩), .agg #[.int .i64 4, .string s, .string t, .string hh, .int .i64 a0, .int .i64 a1, .int .i64 a2, .int .i64 a3, .slice po bl.length pc, .slice ho hl.length hc, .slice ao la.length ac, .slice mo lm.length mc, .slice so ls.length sc, .int .i64 a, .int .i64 b]] w Post
  rw [← hbn] at kp ⊢
  rw [← hhn] at kg ⊢
  rw [← han] at kra ⊢
  rw [← hmn] at krm ⊢
  rw [← hsn] at krs ⊢
  have hB : w0.heap.size < w.heap.size := h.mem.row.lt
  obtain ⟨W0, hW0⟩ : ∃ x, x = w.setCell ⟨w0.heap.size, 0, none⟩ (.int .i64 ((n : Int) + 1)) := ⟨_, rfl⟩
  have d0 : ∀ o, (w.alloc o).cell? ⟨w0.heap.size, 0, none⟩ = some (.int .i64 (n : Int)) := fun o => (h.mem.row.alloc o).cell (i := 0) rfl
  have g0 : ∀ o, (w.alloc o).frozen? ⟨w0.heap.size, 0, none⟩ = false := fun o => (h.mem.row.alloc o).frozen 0
  have d0' : w.cell? ⟨w0.heap.size, 0, none⟩ = some (.int .i64 (n : Int)) := h.mem.row.cell (i := 0) rfl
  have g0' : w.frozen? ⟨w0.heap.size, 0, none⟩ = false := h.mem.row.frozen 0
  have hA := h.count
  rw [← hW0] at hA
  obtain ⟨W1, hW1⟩ : ∃ x, x = W0.alloc (.cells #[.int .i64 4, .string s, .string t, .string hh, .int .i64 a0, .int .i64 a1, .int .i64 a2, .int .i64 a3, .slice po bn pc, .slice ho hn hc, .slice ao an ac, .slice mo mn mc, .slice so sn sc, .int .i64 a, .int .i64 b] 83) := ⟨_, rfl⟩
  have bA : Below W0.heap.size W0 W1 := by rw [hW1]; exact (Below.refl _ _).alloc (Nat.le_refl _) _
  have h1 := hA.keep bA
  have hz0 : W0.heap.size = w.heap.size := by rw [hW0]; simp
  have rS : Row W1 w.heap.size 83 [.int .i64 4, .string s, .string t, .string hh, .int .i64 a0, .int .i64 a1, .int .i64 a2, .int .i64 a3, .slice po bn pc, .slice ho hn hc, .slice ao an ac, .slice mo mn mc, .slice so sn sc, .int .i64 a, .int .i64 b] := by rw [← hz0, hW1]; exact heap_alloc_new W0 _
  have b1 : Below w0.heap.size w0 W1 := h1.below
  have hlp := h.lp
  have hlh := h.lh
  have hlo := h.lo
  have hlm := h.lm
  have hwn : IntKind.i64.wrap ((n : Int) + 1) = (n : Int) + 1 := by rw [IntKind.wrap_i64]; omega
  have HP := Lib.hid hp
  have H1 := Lib.hid h1
  clear hp h hA bA h1 hbn hhn han hmn hsn hz0
  have x0 := rS.cell (i := 0) rfl
  have y0 : ∀ V, Below W1.heap.size W1 V → V.cell? ⟨w0.heap.size, 0, none⟩ = some (.int .i64 ((n : Int) + 1)) := fun V hV => cell_keep hV (H1.out.mem.row.cell (i := 0) rfl)
  have y1 : ∀ V, Below W1.heap.size W1 V → V.cell? ⟨w.heap.size, 3, none⟩ = some (.string hh) := fun V hV => cell_keep hV (rS.cell (i := 3) rfl)
  have k0 : Below W1.heap.size W1 W1.drew := (Below.refl _ _).drew
  have kB : Below W1.heap.size W1 (W1.alloc (.cells #[.slice none 0 0] 30)).drew := ((Below.refl _ _).alloc (Nat.le_refl _) _).drew
  have kC : Below W1.heap.size W1 (W1.alloc (.cells #[.slice none 0 0] 30)) := (Below.refl _ _).alloc (Nat.le_refl _) _
  have rB : Row (W1.alloc (.cells #[.slice none 0 0] 30)).drew W1.heap.size 30 [.slice none 0 0] := heap_alloc_new W1 _
  have qd : ∀ V P', Below W1.heap.size W1 V → (∀ v bv w', OwnHint w' V.heap.size v bv → (bv.length ≤ 1000 ∧ ∀ x ∈ bv, x.1.pairs.length ≤ 1000) → Below V.heap.size V w' → P' (.returned (.tuple #[.agg #[v], .bool true])) w') → Calls Tryz.prog 42 #[.string hh, .int .i64 ((n : Int) + 1)] V P' := fun V P' _ hP => (unhinted2_any hh ((n : Int) + 1) V zh (by omega)).mono (by
    rintro e w' ⟨⟨v, hv, rfl, ho, hl⟩, hb⟩
    exact hP v hv w' ho hl hb)
  rw [hW1, hW0] at x0
  have HW : Hid (W1 = (w.setCell ⟨w0.heap.size, 0, none⟩ (.int .i64 ((n : Int) + 1))).alloc (.cells #[.int .i64 4, .string s, .string t, .string hh, .int .i64 a0, .int .i64 a1, .int .i64 a2, .int .i64 a3, .slice po bn pc, .slice ho hn hc, .slice ao an ac, .slice mo mn mc, .slice so sn sc, .int .i64 a, .int .i64 b] 83)) := by show _ = _; rw [hW1, hW0]
  have HRB := Lib.hid rB
  clear rB rS hW0 hW1 b1 kp kpl kpo kg kgl kgo kra krm krs kla klm kls htab
  go_enter Tryz.func28, Tryz.ntmps28
  go_wp2
  rw [← HW.out]
  clear HW x0 d0 g0 d0' g0'
  go_region_held3 (fun V => Below W1.heap.size W1 V) (first | with_reducible exact k0 | with_reducible exact kB | with_reducible exact kC | with_reducible exact b3 | with_reducible exact k1 | with_reducible exact k2) (first | (go_at_call 42; refine qd _ _ ?_ ?_; exact k0; intro v bv w3 own3 hl3 b3'; obtain ⟨vo, vc, hvv⟩ := owns_slice own3.row; obtain ⟨vn, hvn⟩ : ∃ x, x = bv.length := ⟨_, rfl⟩; rw [← hvn] at hvv; subst hvv; have HVN := Lib.hid hvn; clear hvn; have b3 : Below W1.heap.size W1 w3 := k0.trans (b3'.mono k0.size); have k1 : Below W1.heap.size W1 (w3.alloc (.cells #[.slice none 0 0] 30)) := b3.alloc b3.size _; have k2 : Below W1.heap.size W1 (w3.alloc (.cells #[.slice vo vn vc] 30)) := b3.alloc b3.size _) | (go_at_call 42; refine qd _ _ ?_ ?_; exact kB; intro v bv w3 own3 hl3 b3'; obtain ⟨vo, vc, hvv⟩ := owns_slice own3.row; obtain ⟨vn, hvn⟩ : ∃ x, x = bv.length := ⟨_, rfl⟩; rw [← hvn] at hvv; subst hvv; have HVN := Lib.hid hvn; clear hvn; have b3 : Below W1.heap.size W1 w3 := kB.trans (b3'.mono kB.size); have rz := HRB.out.keep b3'; have z0 := rz.cell (i := 0) rfl; have f0 := rz.frozen 0; have k1 : Below W1.heap.size W1 (w3.setCell ⟨W1.heap.size, 0, none⟩ (.slice vo vn vc)) := b3.setCell (p := ⟨W1.heap.size, 0, none⟩) (Nat.le_refl _) _; have k2 := k1))
  all_goals
    first
    | (obtain ⟨X, hX⟩ : ∃ X, X = w3.alloc (.cells #[.slice vo vn vc] 30) := ⟨_, rfl⟩
       rw [← hX]
       have rp : Row X w3.heap.size 30 [.slice vo vn vc] := by rw [hX]; exact heap_alloc_new w3 _
       have ownX : OwnHint X W1.heap.size (.slice vo vn vc) bv := by rw [hX]; exact (own3.alloc _).base (by simp)
       have bX := k2
       rw [← hX] at bX
       have hLz : W1.heap.size ≤ w3.heap.size := b3.size
       obtain ⟨Lp, hLp⟩ : ∃ y, y = w3.heap.size := ⟨_, rfl⟩
       rw [← hLp] at rp hLz ⊢
       clear hX hLp)
    | (obtain ⟨X, hX⟩ : ∃ X, X = w3.setCell ⟨W1.heap.size, 0, none⟩ (.slice vo vn vc) := ⟨_, rfl⟩
       rw [← hX]
       have rp : Row X W1.heap.size 30 [.slice vo vn vc] := by rw [hX]; exact rz.set 0 _
       have ownX : OwnHint X W1.heap.size (.slice vo vn vc) bv := by rw [hX]; exact (own3.set (by simp) _).base (by simp)
       have bX := k2
       rw [← hX] at bX
       have hLz : W1.heap.size ≤ W1.heap.size := Nat.le_refl _
       obtain ⟨Lp, hLp⟩ : ∃ y, y = W1.heap.size := ⟨_, rfl⟩
       rw [← hLp] at rp ⊢
       replace hLz : W1.heap.size ≤ Lp := by omega
       clear hX hLp rz)
    have HO := Lib.hid ownX
    have HL3 := Lib.hid hl3
    have HBX := Lib.hid bX
    have e0 := rp.cell (i := 0) rfl
    have HRP := Lib.hid rp
    have hrd := OwnHint.rd ownX
    have q8 := fun P' => roomyHint_cps (.slice vo vn vc) (hdat bv) X hrd (by rw [hdat_length]; have := hl3.1; omega) (fun k hk => by
      rw [hdat_length] at hk
      rw [(hdat_get bv hk).2]
      have := hl3.2 _ (List.getElem_mem hk)
      omega) P'
    clear ownX hl3 bX rp hrd own3 b3 b3' k0 kB kC k1 k2 y0 y1 qd HRB
    go_wp2_with fail
    refine q8 _ ?_
    intro w4 bv4 L Dd hbd hlies hL hDd hb4
    obtain ⟨ln, hln⟩ : ∃ x, x = bv4.length := ⟨_, rfl⟩
    rw [← hln]
    obtain ⟨lm1, hlm1⟩ : ∃ x, x = ln + 1 := ⟨_, rfl⟩
    rw [← hlm1]
    obtain ⟨X2, hX2⟩ : ∃ x, x = w4.alloc (.cells #[.slice (some ⟨L, 0, none⟩) ln lm1] 30) := ⟨_, rfl⟩
    have b42 : Below w4.heap.size w4 X2 := by rw [hX2]; exact (Below.refl _ _).alloc (Nat.le_refl _) _
    have rq : Row X2 w4.heap.size 30 [.slice (some ⟨L, 0, none⟩) ln lm1] := by rw [hX2]; exact heap_alloc_new w4 _
    have bX2 : Below X.heap.size X X2 := hb4.trans (b42.mono hb4.size)
    have rp2 := HRP.out.keep bX2
    have hLq : W1.heap.size ≤ w4.heap.size := Nat.le_trans HBX.out.size hb4.size
    have S2 : ASt w0 X2 (n + 1) val cnt cel ps hs os ms := (H1.out.keep HBX.out).keep bX2
    have in1 : InT X2 (fun w' => RdHint w' (.slice vo vn vc) (hdat bv)) := (hint_in HO.out).next (Same6.of_below bX2)
    have in2 : InT X2 (fun w' => RdHint w' (.slice (some ⟨L, 0, none⟩) ln lm1) (hdat bv)) := by
      rw [← hbd, hln]
      have e : bv4.length = bv.length := by have := congrArg List.length hbd; rw [hdat_length, hdat_length] at this; exact this
      refine (roomyH_in hlies hL ?_ ?_).next (Same6.of_below b42)
      · have := HL3.out.1
        omega
      · intro x hx
        obtain ⟨i, hi, rfl⟩ := List.getElem_of_mem hx
        have e2 : bv4[i].1.pairs = bv[i].1.pairs := by rw [← (hdat_get bv4 hi).2, hbd, (hdat_get bv (by omega)).2]
        rw [e2]
        have := HL3.out.2 _ (List.getElem_mem (show i < bv.length by omega))
        omega
    have HM := Lib.hid S2.mem
    have HS2 := Lib.hid S2
    have HIN : Hid (InT X2 (fun w' => RdHint w' (.slice vo vn vc) (hdat bv)) ∧ InT X2 (fun w' => RdHint w' (.slice (some ⟨L, 0, none⟩) ln lm1) (hdat bv))) := ⟨in1, in2⟩
    have HRP2 := Lib.hid rp2
    have HRQ := Lib.hid rq
    have t0 := rp2.cell (i := 0) rfl
    have HX2 := Lib.hid hX2
    have hv0 : cnt 2 ≤ n := by rw [S2.ok.n2]; exact hlh
    have hv1 : cnt 3 ≤ n := by rw [S2.ok.n3]; exact hlh
    clear q8 hbd hlies hL hDd hb4 b42 rq bX2 rp2 S2 in1 in2 e0 HRP hln hlm1 hX2
    go_wp2
    rw [← HX2.out]
    clear HX2
    obtain ⟨goA, gcA, hgvA⟩ := owns_slice (HM.out.own 2 (by omega))
    have hgoA := HM.out.own 2 (by omega)
    rw [hgvA] at hgoA
    obtain ⟨gnA, hgnA⟩ : ∃ x, cnt 2 = x := ⟨_, rfl⟩
    obtain ⟨gxA, hgxA⟩ : ∃ x, cel 2 = x := ⟨_, rfl⟩
    rw [hgnA, hgxA] at hgoA
    rw [hgnA] at hgvA
    have grA := HM.out.row.cell (i := 3) rfl
    rw [hgvA] at grA
    have gaA : ∀ o, (X2.alloc o).cell? ⟨w0.heap.size, 3, none⟩ = some (.slice goA gnA gcA) := fun o => by have := (HM.out.row.alloc o).cell (i := 3) rfl; rw [hgvA] at this; exact this
    have hbzA : w0.heap.size < X2.heap.size := HM.out.row.lt
    have glA : gnA ≤ n := by rw [← hgnA]; exact hv0
    go_region_law (refine step_append_own_at rfl (.tmp 98) (.tmp 100) 76 rfl (w0.heap.size + 1) 30 i0 (.agg #[.slice none 0 0]) 1 24 Tryz.underlying76 ii iz0 iz1 iz2 rfl (by decide) (.slice goA gnA gcA) gnA gxA (by first | rfl | simp [Act.eval, Act.put]) (owns_below (hgoA.alloc _) ((Below.refl _ _).drew) (Nat.le_refl _)) ⟨X2.heap.size, 0, none⟩ 1 1 [.slice vo vn vc] (by first | rfl | simp [Act.eval, Act.put]) rfl (by intro j u hj; simpa using (one_any1 X2 (.slice vo vn vc) 30) j u hj) (slice_one1 _ _ _) (by unfold maxLen; omega) (by omega) (by first | omega | (simp; omega)) ?_; intro vA wA hownA hgrowA hlocA; have GA := HM.out.grow (w1 := (X2.alloc (.cells #[.slice vo vn vc] 30)).drew) (((Below.refl _ _).alloc (Nat.le_refl _) _).drew) (k := 2) (by omega) (by rw [hgvA]; exact hgrowA) (by rw [hgnA, hgxA]; exact hownA) (by rw [hgvA]; exact hlocA); have rbA := (((HM.out.row.alloc (.cells #[.slice vo vn vc] 30)).keep (Below.refl _ _).drew).kept (S := fun g => (Value.slice goA gnA gcA).ownBlock = some g) ((Keep.refl _ _).grown hgrowA (fun g e => .inl e)) (fun e => by have := (hgoA.lt w0.heap.size e).1; omega)); have ybA := rbA.cell (i := 3) rfl; have yfA := rbA.frozen 3; obtain ⟨boA, bcA, hvvA⟩ := owns_slice hownA; subst hvvA; have HGA := Lib.hid GA; clear GA rbA hownA hgrowA hlocA)
    all_goals
      obtain ⟨X3, hX3⟩ : ∃ x, x = wA.setCell ⟨w0.heap.size, 3, none⟩ (.slice boA (gnA + 1) bcA) := ⟨_, rfl⟩
      have gA : Mem8 X3 w0.heap.size ((n + 1 : Nat) : Int) (upd val 2 (.slice boA (gnA + 1) bcA)) (upd cnt 2 (cnt 2 + 1)) (upd cel 2 (cel 2 ++ [.slice vo vn vc])) ∧ Same6 X2 X3 ∧ Keep (fun g => (val 2).ownBlock = some g ∨ g = w0.heap.size) X2 X3 := by rw [hX3]; exact HGA.out
      have HMA := Lib.hid gA.1
      have HSA := Lib.hid gA.2.1
      have HKA := Lib.hid gA.2.2
      have hnq : ¬ ((val 2).ownBlock = some w4.heap.size ∨ w4.heap.size = w0.heap.size) := by
        rintro (e | e)
        · have := ((H1.out.mem.own 2 (by omega)).lt _ e).2; omega
        · have := H1.out.mem.row.lt; omega
      have rq3 := HRQ.out.kept gA.2.2 hnq
      have s0 := rq3.cell (i := 0) rfl
      clear gA HGA rq3 hnq t0 grA gaA ybA yfA hgoA
      go_wp2
      rw [← hX3]
      clear hX3
      obtain ⟨goB, gcB, hgvB⟩ := owns_slice (HMA.out.own 3 (by omega))
      have hgoB := HMA.out.own 3 (by omega)
      rw [hgvB] at hgoB
      obtain ⟨gnB, hgnB⟩ : ∃ x, upd cnt 2 (cnt 2 + 1) 3 = x := ⟨_, rfl⟩
      obtain ⟨gxB, hgxB⟩ : ∃ x, upd cel 2 (cel 2 ++ [.slice vo vn vc]) 3 = x := ⟨_, rfl⟩
      rw [hgnB, hgxB] at hgoB
      rw [hgnB] at hgvB
      have grB := HMA.out.row.cell (i := 4) rfl
      rw [hgvB] at grB
      have gaB : ∀ o, (X3.alloc o).cell? ⟨w0.heap.size, 4, none⟩ = some (.slice goB gnB gcB) := fun o => by have := (HMA.out.row.alloc o).cell (i := 4) rfl; rw [hgvB] at this; exact this
      have hbzB : w0.heap.size < X3.heap.size := HMA.out.row.lt
      have glB : gnB ≤ n := by rw [← hgnB]; exact (by simpa [upd] using hv1)
      go_region_law (refine step_append_own_at rfl (.tmp 108) (.tmp 110) 76 rfl (w0.heap.size + 1) 30 i0 (.agg #[.slice none 0 0]) 1 24 Tryz.underlying76 ii iz0 iz1 iz2 rfl (by decide) (.slice goB gnB gcB) gnB gxB (by first | rfl | simp [Act.eval, Act.put]) (owns_below (hgoB.alloc _) ((Below.refl _ _).drew) (Nat.le_refl _)) ⟨X3.heap.size, 0, none⟩ 1 1 [.slice (some ⟨L, 0, none⟩) ln lm1] (by first | rfl | simp [Act.eval, Act.put]) rfl (by intro j u hj; simpa using (one_any1 X3 (.slice (some ⟨L, 0, none⟩) ln lm1) 30) j u hj) (slice_one1 _ _ _) (by unfold maxLen; omega) (by omega) (by first | omega | (simp; omega)) ?_; intro vB wB hownB hgrowB hlocB; have GB := HMA.out.grow (w1 := (X3.alloc (.cells #[.slice (some ⟨L, 0, none⟩) ln lm1] 30)).drew) (((Below.refl _ _).alloc (Nat.le_refl _) _).drew) (k := 3) (by omega) (by rw [hgvB]; exact hgrowB) (by rw [hgnB, hgxB]; exact hownB) (by rw [hgvB]; exact hlocB); have rbB := (((HMA.out.row.alloc (.cells #[.slice (some ⟨L, 0, none⟩) ln lm1] 30)).keep (Below.refl _ _).drew).kept (S := fun g => (Value.slice goB gnB gcB).ownBlock = some g) ((Keep.refl _ _).grown hgrowB (fun g e => .inl e)) (fun e => by have := (hgoB.lt w0.heap.size e).1; omega)); have ybB := rbB.cell (i := 4) rfl; have yfB := rbB.frozen 4; obtain ⟨boB, bcB, hvvB⟩ := owns_slice hownB; subst hvvB; have HGB := Lib.hid GB; clear GB rbB hownB hgrowB hlocB)
      all_goals
        obtain ⟨X4, hX4⟩ : ∃ x, x = wB.setCell ⟨w0.heap.size, 4, none⟩ (.slice boB (gnB + 1) bcB) := ⟨_, rfl⟩
        have gB : Mem8 X4 w0.heap.size ((n + 1 : Nat) : Int) (upd (upd val 2 (.slice boA (gnA + 1) bcA)) 3 (.slice boB (gnB + 1) bcB)) (upd (upd cnt 2 (cnt 2 + 1)) 3 (upd cnt 2 (cnt 2 + 1) 3 + 1)) (upd (upd cel 2 (cel 2 ++ [.slice vo vn vc])) 3 (upd cel 2 (cel 2 ++ [.slice vo vn vc]) 3 ++ [.slice (some ⟨L, 0, none⟩) ln lm1])) ∧ Same6 X3 X4 ∧ Keep (fun g => (upd val 2 (.slice boA (gnA + 1) bcA) 3).ownBlock = some g ∨ g = w0.heap.size) X3 X4 := by rw [hX4]; exact HGB.out
        have hb3 : Below w0.heap.size w0 X3 := HS2.out.below.trans (HKA.out.toBelow HS2.out.below.size (fun g e => by
          rcases e with e | e
          · have := ((HM.out.own 2 (by omega)).lt g e).1; omega
          · omega))
        have hb4 : Below w0.heap.size w0 X4 := hb3.trans (gB.2.2.toBelow hb3.size (fun g e => by
          rcases e with e | e
          · have := ((HMA.out.own 3 (by omega)).lt g e).1; omega
          · omega))
        obtain ⟨val', cnt', cel', F⟩ := HS2.out.addH ⟨.slice vo vn vc, .slice (some ⟨L, 0, none⟩) ln lm1, hdat bv⟩ (by omega) gB.1 (by simp [upd]) (by simp [upd]) (HSA.out.trans gB.2.1) HIN.out hb4
        have HF := Lib.hid (HP.out X4 _ _ _ _ _ _ _ F)
        rw [hX4] at HF
        clear F gB hb3 hb4 hX4 HGB HP HS2 HM HMA HSA HKA HIN H1
        go_wp2
        first | exact HF.out | (go_ret; exact HF.out)

end Go.Proofs.YtblhmeidbjigaabGreatDoor

/- The step Run of All. -/
set_option linter.unusedSimpArgs false
set_option linter.unusedVariables false
namespace Go.Proofs.YtblhmeidbjigaabGreatDoor
open Go.RowKit Go.Deep

set_option maxRecDepth 100000 in
set_option maxHeartbeats 4000000 in
theorem step_5 (w0 w : World) (n : Nat) (o : StepD) (val : Nat → Value) (cnt : Nat → Nat) (cel : Nat → List Value) (ps : List PI) (hs : List HI) (os : List OI) (ms : List MI) (h : ASt w0 w n val cnt cel ps hs os ms) (hok : OkStep w0 o) (hn9 : n ≤ 628292358710) (htab : TabW w0) (Post : Ending → World → Prop) (hk : o.kind = 5)
    (hp : ∀ w' val' cnt' cel' ps' hs' os' ms', ASt w0 w' (n + 1) val' cnt' cel' ps' hs' os' ms' → Post (.returned (.bool true)) w') :
    Calls Tryz.prog 28 #[.pointer (some ⟨w0.heap.size, 0, none⟩), .agg (stepC o).toArray] w Post := by
  obtain ⟨i0, ii, iz0, iz1, iz2⟩ := info_parts Tryz.infoOutA
  obtain ⟨kd, s, t, hh, a0, a1, a2, a3, pv, bl, hv, hl, av, mv, sv, la, lm, ls, a, b⟩ := o
  dsimp only at hk
  subst hk
  obtain ⟨zs, zt, zh, kp, kpl, kpo, kg, kgl, kgo, kra, krm, krs, kla, klm, kls⟩ := hok
  dsimp only at zs zt zh kp kpl kpo kg kgl kgo kra krm krs kla klm kls
  obtain ⟨po, pc, rfl, _, _⟩ := id kp
  obtain ⟨ho, hc, rfl, _, _⟩ := id kg
  obtain ⟨ao, ac, rfl, _, _⟩ := id kra
  obtain ⟨mo, mc, rfl, _, _⟩ := id krm
  obtain ⟨so, sc, rfl, _, _⟩ := id krs
  obtain ⟨bn, hbn⟩ : ∃ x, x = bl.length := ⟨_, rfl⟩
  obtain ⟨hn, hhn⟩ : ∃ x, x = hl.length := ⟨_, rfl⟩
  obtain ⟨an, han⟩ : ∃ x, x = la.length := ⟨_, rfl⟩
  obtain ⟨mn, hmn⟩ : ∃ x, x = lm.length := ⟨_, rfl⟩
  obtain ⟨sn, hsn⟩ : ∃ x, x = ls.length := ⟨_, rfl⟩
  show Calls Tryz.prog 28 #[.pointer (some ⟨w0.heap.size, 0, none⟩), .agg #[.int .i64 5, .string s, .string t, .string hh, .int .i64 a0, .int .i64 a1, .int .i64 a2, .int .i64 a3, .slice po bl.length pc, .slice ho hl.length hc, .slice ao la.length ac, .slice mo lm.length mc, .slice so ls.length sc, .int .i64 a, .int .i64 b]] w Post
  rw [← hbn] at kp ⊢
  rw [← hhn] at kg ⊢
  rw [← han] at kra ⊢
  rw [← hmn] at krm ⊢
  rw [← hsn] at krs ⊢
  have hB : w0.heap.size < w.heap.size := h.mem.row.lt
  obtain ⟨W0, hW0⟩ : ∃ x, x = w.setCell ⟨w0.heap.size, 0, none⟩ (.int .i64 ((n : Int) + 1)) := ⟨_, rfl⟩
  have d0 : ∀ o, (w.alloc o).cell? ⟨w0.heap.size, 0, none⟩ = some (.int .i64 (n : Int)) := fun o => (h.mem.row.alloc o).cell (i := 0) rfl
  have g0 : ∀ o, (w.alloc o).frozen? ⟨w0.heap.size, 0, none⟩ = false := fun o => (h.mem.row.alloc o).frozen 0
  have d0' : w.cell? ⟨w0.heap.size, 0, none⟩ = some (.int .i64 (n : Int)) := h.mem.row.cell (i := 0) rfl
  have g0' : w.frozen? ⟨w0.heap.size, 0, none⟩ = false := h.mem.row.frozen 0
  have hA := h.count
  rw [← hW0] at hA
  obtain ⟨W1, hW1⟩ : ∃ x, x = W0.alloc (.cells #[.int .i64 5, .string s, .string t, .string hh, .int .i64 a0, .int .i64 a1, .int .i64 a2, .int .i64 a3, .slice po bn pc, .slice ho hn hc, .slice ao an ac, .slice mo mn mc, .slice so sn sc, .int .i64 a, .int .i64 b] 83) := ⟨_, rfl⟩
  have bA : Below W0.heap.size W0 W1 := by rw [hW1]; exact (Below.refl _ _).alloc (Nat.le_refl _) _
  have h1 := hA.keep bA
  have hz0 : W0.heap.size = w.heap.size := by rw [hW0]; simp
  have rS : Row W1 w.heap.size 83 [.int .i64 5, .string s, .string t, .string hh, .int .i64 a0, .int .i64 a1, .int .i64 a2, .int .i64 a3, .slice po bn pc, .slice ho hn hc, .slice ao an ac, .slice mo mn mc, .slice so sn sc, .int .i64 a, .int .i64 b] := by rw [← hz0, hW1]; exact heap_alloc_new W0 _
  have b1 : Below w0.heap.size w0 W1 := h1.below
  have hlp := h.lp
  have hlh := h.lh
  have hlo := h.lo
  have hlm := h.lm
  have hwn : IntKind.i64.wrap ((n : Int) + 1) = (n : Int) + 1 := by rw [IntKind.wrap_i64]; omega
  have HP := Lib.hid hp
  have H1 := Lib.hid h1
  clear hp h hA bA h1 hbn hhn han hmn hsn hz0
  have x0 := rS.cell (i := 0) rfl
  have y0 : ∀ V, Below W1.heap.size W1 V → V.cell? ⟨w0.heap.size, 0, none⟩ = some (.int .i64 ((n : Int) + 1)) := fun V hV => cell_keep hV (H1.out.mem.row.cell (i := 0) rfl)
  have y1 : ∀ V, Below W1.heap.size W1 V → V.cell? ⟨w.heap.size, 1, none⟩ = some (.string s) := fun V hV => cell_keep hV (rS.cell (i := 1) rfl)
  have y2 : ∀ V, Below W1.heap.size W1 V → V.cell? ⟨w.heap.size, 10, none⟩ = some (.slice ao an ac) := fun V hV => cell_keep hV (rS.cell (i := 10) rfl)
  have y3 : ∀ V, Below W1.heap.size W1 V → V.cell? ⟨w.heap.size, 11, none⟩ = some (.slice mo mn mc) := fun V hV => cell_keep hV (rS.cell (i := 11) rfl)
  have y4 : ∀ V, Below W1.heap.size W1 V → V.cell? ⟨w.heap.size, 12, none⟩ = some (.slice so sn sc) := fun V hV => cell_keep hV (rS.cell (i := 12) rfl)
  have y5 : ∀ V, Below W1.heap.size W1 V → V.cell? ⟨w.heap.size, 13, none⟩ = some (.int .i64 a) := fun V hV => cell_keep hV (rS.cell (i := 13) rfl)
  have k0 : Below W1.heap.size W1 W1.drew := (Below.refl _ _).drew
  have kB : Below W1.heap.size W1 (W1.alloc (.cells #[.int .i64 0, .int .i64 0, .slice none 0 0, .slice none 0 0] 63)).drew := ((Below.refl _ _).alloc (Nat.le_refl _) _).drew
  have kC : Below W1.heap.size W1 (W1.alloc (.cells #[.int .i64 0, .int .i64 0, .slice none 0 0, .slice none 0 0] 63)) := (Below.refl _ _).alloc (Nat.le_refl _) _
  have rB : Row (W1.alloc (.cells #[.int .i64 0, .int .i64 0, .slice none 0 0, .slice none 0 0] 63)).drew W1.heap.size 63 [.int .i64 0, .int .i64 0, .slice none 0 0, .slice none 0 0] := heap_alloc_new W1 _
  have qd : ∀ V P', Below W1.heap.size W1 V → (∀ k r mv lv (ml ll : List Int) w', ml.length ≤ 100000 → ll.length ≤ 100000 → w'.ownsRow V.heap.size 3 1 mv ml.length (ints ml) → w'.ownsRow V.heap.size 3 1 lv ll.length (ints ll) → Below V.heap.size V w' → P' (.returned (.tuple #[.agg #[.int .i64 k, .int .i64 r, mv, lv], .bool true])) w') → Calls Tryz.prog 44 #[.string s, .agg #[.slice ao an ac, .slice mo mn mc, .slice so sn sc], .int .i64 a, .int .i64 ((n : Int) + 1)] V P' := fun V P' hV hP =>
    ran2_cps s _ _ _ la lm ls a ((n : Int) + 1) (by omega) V (kra.keep (b1.trans (hV.mono b1.size))) (krm.keep (b1.trans (hV.mono b1.size))) (krs.keep (b1.trans (hV.mono b1.size))) kla klm kls zs P' hP
  rw [hW1, hW0] at x0
  have HW : Hid (W1 = (w.setCell ⟨w0.heap.size, 0, none⟩ (.int .i64 ((n : Int) + 1))).alloc (.cells #[.int .i64 5, .string s, .string t, .string hh, .int .i64 a0, .int .i64 a1, .int .i64 a2, .int .i64 a3, .slice po bn pc, .slice ho hn hc, .slice ao an ac, .slice mo mn mc, .slice so sn sc, .int .i64 a, .int .i64 b] 83)) := by show _ = _; rw [hW1, hW0]
  have HRB := Lib.hid rB
  clear rB rS hW0 hW1 kp kpl kpo kg kgl kgo htab
  go_enter Tryz.func28, Tryz.ntmps28
  go_wp2
  rw [← HW.out]
  clear HW x0 d0 g0 d0' g0' b1 kra krm krs kla klm kls
  go_region_held3 (fun V => Below W1.heap.size W1 V) (first | with_reducible exact k0 | with_reducible exact kB | with_reducible exact kC | with_reducible exact b3 | with_reducible exact k1 | with_reducible exact k2) (first | (go_at_call 44; refine qd _ _ ?_ ?_; exact k0; intro kk rr mv' lv' ml ll w3 hml hll om ol b3'; obtain ⟨m1, mc1, hm1⟩ := owns_slice om; obtain ⟨l1, lc1, hl1⟩ := owns_slice ol; obtain ⟨mn1, hmn1⟩ : ∃ x, x = ml.length := ⟨_, rfl⟩; obtain ⟨ln1, hln1⟩ : ∃ x, x = ll.length := ⟨_, rfl⟩; rw [← hmn1] at hm1; rw [← hln1] at hl1; subst hm1; subst hl1; have HMN := Lib.hid hmn1; have HLN := Lib.hid hln1; clear hmn1 hln1; have b3 : Below W1.heap.size W1 w3 := k0.trans (b3'.mono k0.size); have k1 : Below W1.heap.size W1 (w3.alloc (.cells #[.int .i64 0, .int .i64 0, .slice none 0 0, .slice none 0 0] 63)) := b3.alloc b3.size _; have k2 : Below W1.heap.size W1 (w3.alloc (.cells #[.int .i64 kk, .int .i64 rr, .slice m1 mn1 mc1, .slice l1 ln1 lc1] 63)) := b3.alloc b3.size _) | (go_at_call 44; refine qd _ _ ?_ ?_; exact kB; intro kk rr mv' lv' ml ll w3 hml hll om ol b3'; obtain ⟨m1, mc1, hm1⟩ := owns_slice om; obtain ⟨l1, lc1, hl1⟩ := owns_slice ol; obtain ⟨mn1, hmn1⟩ : ∃ x, x = ml.length := ⟨_, rfl⟩; obtain ⟨ln1, hln1⟩ : ∃ x, x = ll.length := ⟨_, rfl⟩; rw [← hmn1] at hm1; rw [← hln1] at hl1; subst hm1; subst hl1; have HMN := Lib.hid hmn1; have HLN := Lib.hid hln1; clear hmn1 hln1; have b3 : Below W1.heap.size W1 w3 := kB.trans (b3'.mono kB.size); have rz := HRB.out.keep b3'; have z0 := rz.cell (i := 0) rfl; have z1 := rz.cell (i := 1) rfl; have z2 := rz.cell (i := 2) rfl; have z3 := rz.cell (i := 3) rfl; have f0 := rz.frozen 0; have f1 := rz.frozen 1; have f2 := rz.frozen 2; have f3 := rz.frozen 3; have k1 : Below W1.heap.size W1 (out4 w3 W1.heap.size kk rr (.slice m1 mn1 mc1) (.slice l1 ln1 lc1)) := out4_below b3 (Nat.le_refl _) _ _ _ _; have k2 := k1; unfold out4 at k1))
  all_goals
    first
    | (obtain ⟨X, hX⟩ : ∃ X, X = w3.alloc (.cells #[.int .i64 kk, .int .i64 rr, .slice m1 mn1 mc1, .slice l1 ln1 lc1] 63) := ⟨_, rfl⟩
       rw [← hX]
       have rp : Row X w3.heap.size 63 [.int .i64 kk, .int .i64 rr, .slice m1 mn1 mc1, .slice l1 ln1 lc1] := by rw [hX]; exact heap_alloc_new w3 _
       have omX : X.ownsRow W1.heap.size 3 1 (.slice m1 mn1 mc1) ml.length (ints ml) := by rw [hX]; exact owns_base (om.alloc _) (by simp)
       have olX : X.ownsRow W1.heap.size 3 1 (.slice l1 ln1 lc1) ll.length (ints ll) := by rw [hX]; exact owns_base (ol.alloc _) (by simp)
       have bX := k2
       rw [← hX] at bX
       have hLz : W1.heap.size ≤ w3.heap.size := b3.size
       obtain ⟨Lp, hLp⟩ : ∃ y, y = w3.heap.size := ⟨_, rfl⟩
       rw [← hLp] at rp hLz ⊢
       clear hX hLp)
    | (obtain ⟨X, hX⟩ : ∃ X, X = out4 w3 W1.heap.size kk rr (.slice m1 mn1 mc1) (.slice l1 ln1 lc1) := ⟨_, rfl⟩
       have hX' := hX
       unfold out4 at hX'
       rw [← hX']
       have rp : Row X W1.heap.size 63 [.int .i64 kk, .int .i64 rr, .slice m1 mn1 mc1, .slice l1 ln1 lc1] := by rw [hX']; exact (((rz.set 0 _).set 1 _).set 2 _).set 3 _
       have omX : X.ownsRow W1.heap.size 3 1 (.slice m1 mn1 mc1) ml.length (ints ml) := by rw [hX']; exact owns_base (ownsRow_setCell_below (ownsRow_setCell_below (ownsRow_setCell_below (ownsRow_setCell_below om (by simp) _) (by simp) _) (by simp) _) (by simp) _) (by simp)
       have olX : X.ownsRow W1.heap.size 3 1 (.slice l1 ln1 lc1) ll.length (ints ll) := by rw [hX']; exact owns_base (ownsRow_setCell_below (ownsRow_setCell_below (ownsRow_setCell_below (ownsRow_setCell_below ol (by simp) _) (by simp) _) (by simp) _) (by simp) _) (by simp)
       have bX := k2
       rw [← hX] at bX
       have hLz : W1.heap.size ≤ W1.heap.size := Nat.le_refl _
       obtain ⟨Lp, hLp⟩ : ∃ y, y = W1.heap.size := ⟨_, rfl⟩
       rw [← hLp] at rp ⊢
       replace hLz : W1.heap.size ≤ Lp := by omega
       clear hX hX' hLp rz)
    have HOM := Lib.hid omX
    have HOL := Lib.hid olX
    have HBX := Lib.hid bX
    have HRP := Lib.hid rp
    have hLX : Lp < X.heap.size := rp.lt
    obtain ⟨X1, hX1⟩ : ∃ x, x = X.alloc (.cells #[.int .i64 kk, .int .i64 rr, .slice m1 mn1 mc1, .slice l1 ln1 lc1] 63) := ⟨_, rfl⟩
    have b01 : Below X.heap.size X X1 := by rw [hX1]; exact (Below.refl _ _).alloc (Nat.le_refl _) _
    have ry1 : Row X1 X.heap.size 63 [.int .i64 kk, .int .i64 rr, .slice m1 mn1 mc1, .slice l1 ln1 lc1] := by rw [hX1]; exact heap_alloc_new X _
    have rp1 := rp.keep b01
    have e0 := rp.cell (i := 0) rfl
    have e1 := rp.cell (i := 1) rfl
    have e2 := rp.cell (i := 2) rfl
    have e3 := rp.cell (i := 3) rfl
    have e2' := rp1.cell (i := 2) rfl
    rw [hX1] at e2'
    have q8 := fun P' => aCopied_cps (.slice m1 mn1 mc1) ml X1 ((ints_in omX).here.keep b01) (by omega) P'
    rw [hX1, ← HMN.out] at q8
    have HX1 := Lib.hid hX1
    have HY1 := Lib.hid ry1
    have HB01 := Lib.hid b01
    clear omX olX bX rp om ol b3 b3' k0 kB kC k1 k2 y0 y1 y2 y3 y4 y5 qd HRB hX1 ry1 b01 rp1
    go_wp2_with fail
    refine q8 _ ?_
    rw [← HX1.out]
    intro w4 rc1 hb4
    have hyz : X.heap.size < X1.heap.size := HY1.out.lt
    obtain ⟨cA, hcA⟩ : ∃ x, x = X1.heap.size := ⟨_, rfl⟩
    rw [← hcA] at rc1 hyz ⊢
    have ry4 := HY1.out.keep hb4
    have z2 := ry4.cell (i := 2) rfl
    have zf2 := ry4.frozen 2
    have ry5 := ry4.set 2 (.slice (some ⟨cA, 0, none⟩) mn1 mn1)
    have b05 : Below X.heap.size X (w4.setCell ⟨X.heap.size, 2, none⟩ (.slice (some ⟨cA, 0, none⟩) mn1 mn1)) := (HB01.out.trans (hb4.mono HB01.out.size)).setCell (p := ⟨X.heap.size, 2, none⟩) (Nat.le_refl _) _
    have rc5 := rc1.unset (a := ⟨X.heap.size, 2, none⟩) (by show cA ≠ X.heap.size; omega) (.slice (some ⟨cA, 0, none⟩) mn1 mn1)
    have rp5 := HRP.out.keep b05
    have e3' := rp5.cell (i := 3) rfl
    have q9 := fun P' => aCopied_cps (.slice l1 ln1 lc1) ll (w4.setCell ⟨X.heap.size, 2, none⟩ (.slice (some ⟨cA, 0, none⟩) mn1 mn1)) ((ints_in HOL.out).here.keep b05) (by omega) P'
    rw [← HLN.out] at q9
    have HY5 := Lib.hid ry5
    have HB05 := Lib.hid b05
    have HC5 := Lib.hid rc5
    clear q8 rc1 hb4 ry4 ry5 b05 rc5 rp5 e0 e1 e2 e3 e2' HX1 HY1 HB01 hcA
    go_wp2_with fail
    refine q9 _ ?_
    intro w5 rd1 hb5
    obtain ⟨cB, hcB⟩ : ∃ x, x = (w4.setCell ⟨X.heap.size, 2, none⟩ (.slice (some ⟨cA, 0, none⟩) mn1 mn1)).heap.size := ⟨_, rfl⟩
    have hyB : X.heap.size < cB := by rw [hcB]; exact HY5.out.lt
    have hcAB : cA < cB := by rw [hcB]; exact HC5.out.lt
    have hcB' : cB = w4.heap.size := by rw [hcB]; simp
    rw [← hcB] at rd1
    have ry6 := HY5.out.keep hb5
    have z3 := ry6.cell (i := 3) rfl
    have zf3 := ry6.frozen 3
    obtain ⟨X2, hX2⟩ : ∃ x, x = w5.setCell ⟨X.heap.size, 3, none⟩ (.slice (some ⟨cB, 0, none⟩) ln1 ln1) := ⟨_, rfl⟩
    have rq : Row X2 X.heap.size 63 [.int .i64 kk, .int .i64 rr, .slice (some ⟨cA, 0, none⟩) mn1 mn1, .slice (some ⟨cB, 0, none⟩) ln1 ln1] := by rw [hX2]; exact ry6.set 3 (.slice (some ⟨cB, 0, none⟩) ln1 ln1)
    have bX2 : Below X.heap.size X X2 := by rw [hX2]; exact (HB05.out.trans (hb5.mono HB05.out.size)).setCell (p := ⟨X.heap.size, 3, none⟩) (Nat.le_refl _) _
    have rcA : Row X2 cA 3 (ints ml) := by rw [hX2]; exact (HC5.out.keep hb5).unset (a := ⟨X.heap.size, 3, none⟩) (by show cA ≠ X.heap.size; omega) _
    have rcB : Row X2 cB 3 (ints ll) := by rw [hX2]; exact rd1.unset (a := ⟨X.heap.size, 3, none⟩) (by show cB ≠ X.heap.size; omega) _
    have rp2 := HRP.out.keep bX2
    have hLq : W1.heap.size ≤ X.heap.size := HBX.out.size
    have S2 : ASt w0 X2 (n + 1) val cnt cel ps hs os ms := (H1.out.keep HBX.out).keep bX2
    have in1 : InT X2 (fun w' => RdWords w' (.slice m1 mn1 mc1) ml) := (ints_in HOM.out).next (Same6.of_below bX2)
    have in2 : InT X2 (fun w' => RdWords w' (.slice (some ⟨cA, 0, none⟩) mn1 mn1) ml) := by
      have := rowI_in (cap := mn1) rcA (by omega)
      rw [← HMN.out] at this
      exact this
    have in3 : InT X2 (fun w' => RdWords w' (.slice l1 ln1 lc1) ll) := (ints_in HOL.out).next (Same6.of_below bX2)
    have in4 : InT X2 (fun w' => RdWords w' (.slice (some ⟨cB, 0, none⟩) ln1 ln1) ll) := by
      have := rowI_in (cap := ln1) rcB (by omega)
      rw [← HLN.out] at this
      exact this
    have HM := Lib.hid S2.mem
    have HS2 := Lib.hid S2
    have HIN : Hid ((InT X2 (fun w' => RdWords w' (.slice m1 mn1 mc1) ml) ∧ InT X2 (fun w' => RdWords w' (.slice (some ⟨cA, 0, none⟩) mn1 mn1) ml)) ∧ (InT X2 (fun w' => RdWords w' (.slice l1 ln1 lc1) ll) ∧ InT X2 (fun w' => RdWords w' (.slice (some ⟨cB, 0, none⟩) ln1 ln1) ll))) := ⟨⟨in1, in2⟩, ⟨in3, in4⟩⟩
    have HRQ0 := Lib.hid rq
    have t0 := rp2.cell (i := 0) rfl
    have t1 := rp2.cell (i := 1) rfl
    have t2 := rp2.cell (i := 2) rfl
    have t3 := rp2.cell (i := 3) rfl
    have hv0 : cnt 4 ≤ n := by rw [S2.ok.n4]; exact hlo
    have hv1 : cnt 5 ≤ n := by rw [S2.ok.n5]; exact hlo
    have HX2 : Hid (X2 = w5.setCell ⟨X.heap.size, 3, none⟩ (.slice (some ⟨w4.heap.size, 0, none⟩) ln1 ln1)) := by show _ = _; rw [hX2, hcB']
    have HCB := Lib.hid hcB'
    clear q9 rd1 hb5 ry6 rq bX2 rcA rcB rp2 S2 in1 in2 in3 in4 HRP hX2 HY5 HB05 HC5 hcB hcB' hyB hcAB e3'
    rw [HCB.out] at HIN HRQ0
    go_wp2
    rw [← HX2.out]
    rw [← HCB.out]
    rw [← HCB.out] at HIN HRQ0
    clear HX2 HCB z2 zf2 z3 zf3
    obtain ⟨Ly, hLy⟩ : ∃ x, x = X.heap.size := ⟨_, rfl⟩
    rw [← hLy]
    have HRQ : Hid (Row X2 Ly 63 [.int .i64 kk, .int .i64 rr, .slice (some ⟨cA, 0, none⟩) mn1 mn1, .slice (some ⟨cB, 0, none⟩) ln1 ln1]) := by rw [hLy]; exact HRQ0.out
    rw [← hLy] at hLq
    clear hLy HRQ0 hLX hyz
    obtain ⟨goA, gcA, hgvA⟩ := owns_slice (HM.out.own 4 (by omega))
    have hgoA := HM.out.own 4 (by omega)
    rw [hgvA] at hgoA
    obtain ⟨gnA, hgnA⟩ : ∃ x, cnt 4 = x := ⟨_, rfl⟩
    obtain ⟨gxA, hgxA⟩ : ∃ x, cel 4 = x := ⟨_, rfl⟩
    rw [hgnA, hgxA] at hgoA
    rw [hgnA] at hgvA
    have grA := HM.out.row.cell (i := 5) rfl
    rw [hgvA] at grA
    have gaA : ∀ o, (X2.alloc o).cell? ⟨w0.heap.size, 5, none⟩ = some (.slice goA gnA gcA) := fun o => by have := (HM.out.row.alloc o).cell (i := 5) rfl; rw [hgvA] at this; exact this
    have hbzA : w0.heap.size < X2.heap.size := HM.out.row.lt
    have glA : gnA ≤ n := by rw [← hgnA]; exact hv0
    go_region_law (refine step_append_own_at rfl (.tmp 144) (.tmp 146) 77 rfl (w0.heap.size + 1) 63 i0 (.agg #[.int .i64 0, .int .i64 0, .slice none 0 0, .slice none 0 0]) 4 64 Tryz.underlying77 ii iz0 iz1 iz2 rfl (by decide) (.slice goA gnA gcA) gnA gxA (by first | rfl | simp [Act.eval, Act.put]) (owns_below (hgoA.alloc _) ((Below.refl _ _).drew) (Nat.le_refl _)) ⟨X2.heap.size, 0, none⟩ 1 1 [.int .i64 kk, .int .i64 rr, .slice m1 mn1 mc1, .slice l1 ln1 lc1] (by first | rfl | simp [Act.eval, Act.put]) rfl (by intro j u hj; simpa using (four_any X2 (.int .i64 kk) (.int .i64 rr) (.slice m1 mn1 mc1) (.slice l1 ln1 lc1) 63) j u hj) (out_one4 _ _ _ _ _ _ _ _) (by unfold maxLen; omega) (by omega) (by first | omega | (simp; omega)) ?_; intro vA wA hownA hgrowA hlocA; have GA := HM.out.grow (w1 := (X2.alloc (.cells #[.int .i64 kk, .int .i64 rr, .slice m1 mn1 mc1, .slice l1 ln1 lc1] 63)).drew) (((Below.refl _ _).alloc (Nat.le_refl _) _).drew) (k := 4) (by omega) (by rw [hgvA]; exact hgrowA) (by rw [hgnA, hgxA]; exact hownA) (by rw [hgvA]; exact hlocA); have rbA := (((HM.out.row.alloc (.cells #[.int .i64 kk, .int .i64 rr, .slice m1 mn1 mc1, .slice l1 ln1 lc1] 63)).keep (Below.refl _ _).drew).kept (S := fun g => (Value.slice goA gnA gcA).ownBlock = some g) ((Keep.refl _ _).grown hgrowA (fun g e => .inl e)) (fun e => by have := (hgoA.lt w0.heap.size e).1; omega)); have ybA := rbA.cell (i := 5) rfl; have yfA := rbA.frozen 5; obtain ⟨boA, bcA, hvvA⟩ := owns_slice hownA; subst hvvA; have HGA := Lib.hid GA; clear GA rbA hownA hgrowA hlocA)
    all_goals
      obtain ⟨X3, hX3⟩ : ∃ x, x = wA.setCell ⟨w0.heap.size, 5, none⟩ (.slice boA (gnA + 1) bcA) := ⟨_, rfl⟩
      have gA : Mem8 X3 w0.heap.size ((n + 1 : Nat) : Int) (upd val 4 (.slice boA (gnA + 1) bcA)) (upd cnt 4 (cnt 4 + 1)) (upd cel 4 (cel 4 ++ [.int .i64 kk, .int .i64 rr, .slice m1 mn1 mc1, .slice l1 ln1 lc1])) ∧ Same6 X2 X3 ∧ Keep (fun g => (val 4).ownBlock = some g ∨ g = w0.heap.size) X2 X3 := by rw [hX3]; exact HGA.out
      have HMA := Lib.hid gA.1
      have HSA := Lib.hid gA.2.1
      have HKA := Lib.hid gA.2.2
      have hnq : ¬ ((val 4).ownBlock = some Ly ∨ Ly = w0.heap.size) := by
        rintro (e | e)
        · have := ((H1.out.mem.own 4 (by omega)).lt _ e).2; omega
        · have := H1.out.mem.row.lt; omega
      have rq3 := HRQ.out.kept gA.2.2 hnq
      have s0 := rq3.cell (i := 0) rfl
      have s1 := rq3.cell (i := 1) rfl
      have s2 := rq3.cell (i := 2) rfl
      have s3 := rq3.cell (i := 3) rfl
      clear gA HGA rq3 hnq t0 t1 t2 t3 grA gaA ybA yfA hgoA
      go_wp2
      rw [← hX3]
      clear hX3
      obtain ⟨goB, gcB, hgvB⟩ := owns_slice (HMA.out.own 5 (by omega))
      have hgoB := HMA.out.own 5 (by omega)
      rw [hgvB] at hgoB
      obtain ⟨gnB, hgnB⟩ : ∃ x, upd cnt 4 (cnt 4 + 1) 5 = x := ⟨_, rfl⟩
      obtain ⟨gxB, hgxB⟩ : ∃ x, upd cel 4 (cel 4 ++ [.int .i64 kk, .int .i64 rr, .slice m1 mn1 mc1, .slice l1 ln1 lc1]) 5 = x := ⟨_, rfl⟩
      rw [hgnB, hgxB] at hgoB
      rw [hgnB] at hgvB
      have grB := HMA.out.row.cell (i := 6) rfl
      rw [hgvB] at grB
      have gaB : ∀ o, (X3.alloc o).cell? ⟨w0.heap.size, 6, none⟩ = some (.slice goB gnB gcB) := fun o => by have := (HMA.out.row.alloc o).cell (i := 6) rfl; rw [hgvB] at this; exact this
      have hbzB : w0.heap.size < X3.heap.size := HMA.out.row.lt
      have glB : gnB ≤ n := by rw [← hgnB]; exact (by simpa [upd] using hv1)
      go_region_law (refine step_append_own_at rfl (.tmp 154) (.tmp 156) 77 rfl (w0.heap.size + 1) 63 i0 (.agg #[.int .i64 0, .int .i64 0, .slice none 0 0, .slice none 0 0]) 4 64 Tryz.underlying77 ii iz0 iz1 iz2 rfl (by decide) (.slice goB gnB gcB) gnB gxB (by first | rfl | simp [Act.eval, Act.put]) (owns_below (hgoB.alloc _) ((Below.refl _ _).drew) (Nat.le_refl _)) ⟨X3.heap.size, 0, none⟩ 1 1 [.int .i64 kk, .int .i64 rr, .slice (some ⟨cA, 0, none⟩) mn1 mn1, .slice (some ⟨cB, 0, none⟩) ln1 ln1] (by first | rfl | simp [Act.eval, Act.put]) rfl (by intro j u hj; simpa using (four_any X3 (.int .i64 kk) (.int .i64 rr) (.slice (some ⟨cA, 0, none⟩) mn1 mn1) (.slice (some ⟨cB, 0, none⟩) ln1 ln1) 63) j u hj) (out_one4 _ _ _ _ _ _ _ _) (by unfold maxLen; omega) (by omega) (by first | omega | (simp; omega)) ?_; intro vB wB hownB hgrowB hlocB; have GB := HMA.out.grow (w1 := (X3.alloc (.cells #[.int .i64 kk, .int .i64 rr, .slice (some ⟨cA, 0, none⟩) mn1 mn1, .slice (some ⟨cB, 0, none⟩) ln1 ln1] 63)).drew) (((Below.refl _ _).alloc (Nat.le_refl _) _).drew) (k := 5) (by omega) (by rw [hgvB]; exact hgrowB) (by rw [hgnB, hgxB]; exact hownB) (by rw [hgvB]; exact hlocB); have rbB := (((HMA.out.row.alloc (.cells #[.int .i64 kk, .int .i64 rr, .slice (some ⟨cA, 0, none⟩) mn1 mn1, .slice (some ⟨cB, 0, none⟩) ln1 ln1] 63)).keep (Below.refl _ _).drew).kept (S := fun g => (Value.slice goB gnB gcB).ownBlock = some g) ((Keep.refl _ _).grown hgrowB (fun g e => .inl e)) (fun e => by have := (hgoB.lt w0.heap.size e).1; omega)); have ybB := rbB.cell (i := 6) rfl; have yfB := rbB.frozen 6; obtain ⟨boB, bcB, hvvB⟩ := owns_slice hownB; subst hvvB; have HGB := Lib.hid GB; clear GB rbB hownB hgrowB hlocB)
      all_goals
        obtain ⟨X4, hX4⟩ : ∃ x, x = wB.setCell ⟨w0.heap.size, 6, none⟩ (.slice boB (gnB + 1) bcB) := ⟨_, rfl⟩
        have gB : Mem8 X4 w0.heap.size ((n + 1 : Nat) : Int) (upd (upd val 4 (.slice boA (gnA + 1) bcA)) 5 (.slice boB (gnB + 1) bcB)) (upd (upd cnt 4 (cnt 4 + 1)) 5 (upd cnt 4 (cnt 4 + 1) 5 + 1)) (upd (upd cel 4 (cel 4 ++ [.int .i64 kk, .int .i64 rr, .slice m1 mn1 mc1, .slice l1 ln1 lc1])) 5 (upd cel 4 (cel 4 ++ [.int .i64 kk, .int .i64 rr, .slice m1 mn1 mc1, .slice l1 ln1 lc1]) 5 ++ [.int .i64 kk, .int .i64 rr, .slice (some ⟨cA, 0, none⟩) mn1 mn1, .slice (some ⟨cB, 0, none⟩) ln1 ln1])) ∧ Same6 X3 X4 ∧ Keep (fun g => (upd val 4 (.slice boA (gnA + 1) bcA) 5).ownBlock = some g ∨ g = w0.heap.size) X3 X4 := by rw [hX4]; exact HGB.out
        have hb3 : Below w0.heap.size w0 X3 := HS2.out.below.trans (HKA.out.toBelow HS2.out.below.size (fun g e => by
          rcases e with e | e
          · have := ((HM.out.own 4 (by omega)).lt g e).1; omega
          · omega))
        have hb4 : Below w0.heap.size w0 X4 := hb3.trans (gB.2.2.toBelow hb3.size (fun g e => by
          rcases e with e | e
          · have := ((HMA.out.own 5 (by omega)).lt g e).1; omega
          · omega))
        obtain ⟨val', cnt', cel', F⟩ := HS2.out.addO ⟨kk, rr, .slice m1 mn1 mc1, .slice (some ⟨cA, 0, none⟩) mn1 mn1, .slice l1 ln1 lc1, .slice (some ⟨cB, 0, none⟩) ln1 ln1, ml, ll⟩ (by omega) gB.1 (by simp [upd]) (by simp [upd]) (HSA.out.trans gB.2.1) HIN.out hb4
        have HF := Lib.hid (HP.out X4 _ _ _ _ _ _ _ F)
        rw [hX4] at HF
        clear F gB hb3 hb4 hX4 HGB HP HS2 HM HMA HSA HKA HIN H1
        go_wp2
        first | exact HF.out | (go_ret; exact HF.out)

end Go.Proofs.YtblhmeidbjigaabGreatDoor

/- Marks in package compute, and in package twin. -/
set_option linter.unusedSimpArgs false
set_option linter.unusedVariables false
namespace Go.Proofs.YtblhmeidbjigaabGreatDoor
open Go.RowKit

set_option maxRecDepth 100000 in
set_option maxHeartbeats 4000000 in
theorem cMarksOf_cps (s : ByteArray) (block : Int) (w : World) (hs : s.size ≤ maxLen) (htab : TabW w) (Post : Ending → World → Prop)
    (hp : ∀ l er v w', MarksAns s block l er → w'.ownsRow w.heap.size 9 1 v l.length (texts l) → Below w.heap.size w w' → Post (.returned (.tuple #[v, .int .i64 er])) w') :
    Calls Tryz.prog 119 #[.string s, .int .i64 block] w Post := by
  have hc := cDecode_any s w hs
  have HP := Lib.hid hp
  clear hp
  go_enter Tryz.func119, Tryz.ntmps119
  go_wp2_with fail
  refine hc.mono ?_
  clear hc
  rintro e w1 ⟨hor, hb1⟩
  rcases hor with ⟨p, v, bv, rfl, ho, hd, hg, ht⟩ | ⟨hn, rfl⟩
  · obtain ⟨bo, bc, rfl⟩ := owns_slice ho.row
    have hlen : bv.length = p.blocks.length := by rw [← hd, bdat_length]
    have hrd0 := ho.rd
    rw [hd] at hrd0
    rw [hlen] at hrd0 ⊢
    obtain ⟨hr, hargs, hdata, hsl⟩ := good_shape hg
    have hb2 : Below w.heap.size w (w1.alloc (.cells #[.int .i64 p.args, .int .i64 p.regs, .int .i64 p.data, .int .i64 p.slots, .slice bo p.blocks.length bc] 25)) := hb1.alloc hb1.size _
    have hb12 : Below w1.heap.size w1 (w1.alloc (.cells #[.int .i64 p.args, .int .i64 p.regs, .int .i64 p.data, .int .i64 p.slots, .slice bo p.blocks.length bc] 25)) := (Below.refl _ _).alloc (Nat.le_refl _) _
    have hrd2 := hrd0.keep hb12
    have r : Row (w1.alloc (.cells #[.int .i64 p.args, .int .i64 p.regs, .int .i64 p.data, .int .i64 p.slots, .slice bo p.blocks.length bc] 25)) w1.heap.size 25 [.int .i64 p.args, .int .i64 p.regs, .int .i64 p.data, .int .i64 p.slots, .slice bo p.blocks.length bc] := heap_alloc_new w1 _
    have q1 := cHas_any p.args p.regs p.data p.slots bo p.blocks.length bc block (w1.alloc (.cells #[.int .i64 p.args, .int .i64 p.regs, .int .i64 p.data, .int .i64 p.slots, .slice bo p.blocks.length bc] 25))
    unfold progV
    clear ho hd hrd0 hb1 hb12 hlen
    go_wp2_with fail
    refine q1.mono ?_
    rintro e w2 ⟨rfl, b2⟩
    have r2 := r.keep b2
    have hrd3 := hrd2.keep b2
    have hb3 : Below w.heap.size w w2 := hb2.trans (b2.mono hb2.size)
    have p0 := r2.cell (i := 0) rfl
    have p1 := r2.cell (i := 1) rfl
    have p2 := r2.cell (i := 2) rfl
    have p3 := r2.cell (i := 3) rfl
    have p4 := r2.cell (i := 4) rfl
    clear q1 b2 r hrd2 hb2
    by_cases hall : 0 ≤ block ∧ block < p.blocks.length
    · obtain ⟨ha1, ha2⟩ := id hall
      obtain ⟨b, rfl⟩ := Int.eq_ofNat_of_zero_le ha1
      obtain ⟨n, hn⟩ := Int.eq_ofNat_of_zero_le (show 0 ≤ p.regs + p.slots by omega)
      have hbn : b < p.blocks.length := by omega
      have hdec : (decide ((0 : Int) ≤ (b : Int)) && decide ((b : Int) < (p.blocks.length : Int))) = true := by simp; omega
      rw [hdec]
      have HALL := Lib.hid hall
      have qb := fun P' => cBlock_cps p (.slice bo p.blocks.length bc) b n hn.symm hg hbn w2 hrd3 (htab.keep hb3) P'
      unfold progV at qb
      clear hall hdec hn
      go_wp2_with fail
      refine qb _ ?_ ?_
      · intro hbig v w3 f c ms hv b3
        obtain ⟨B, Lo, P, cap, ps, pc, mv, hB, rfl, hS⟩ := hv
        have HX : Hid (MarksAns s b [] 5) := .inr ⟨p, hg, ht, .inr ⟨HALL.out, .inl ⟨rfl, rfl, by simpa using hbig⟩⟩⟩
        obtain ⟨co, cn, cc, rfl⟩ := hS.pc.slice
        obtain ⟨mo, mc, rfl⟩ := owns_slice hS.mrk
        have hb4 : Below w.heap.size w (w3.alloc (.cells #[.slice (some ⟨P, 0, none⟩) n cap, .int .i64 (ckind c), .int .i64 (cval c), .slice co cn cc, .int .i64 c.size, .string (str (showT c)), .slice mo ms.length mc, .bool true, .int .i64 p.regs, .int .i64 p.data] 181)) := (hb3.trans (b3.mono hb3.size)).alloc (Nat.le_trans hb3.size b3.size) _
        have HF := Lib.hid (HP.out [] 5 (.slice none 0 0) _ HX.out (World.ownsRow_nil _ _ _ _) hb4)
        unfold stV
        clear hbig hS hb3 b3 qb r2 hrd3 HP hb4
        go_wp2
        exact HF.out
      · intro hbig v w3 hv b3
        obtain ⟨B, Lo, P, cap, ps, pc, mv, hB, rfl, hS⟩ := hv
        obtain ⟨co, cn, cc, rfl⟩ := hS.pc.slice
        obtain ⟨mo, mc, hmv⟩ := owns_slice hS.mrk
        subst hmv
        obtain ⟨L, hL⟩ : ∃ L, L = marksT p.regs p.slots p.data (plainNames p.regs p.slots) (bops p.blocks b) (bops p.blocks b).length := ⟨_, rfl⟩
        have HX : Hid (MarksAns s b L 0) := .inr ⟨p, hg, ht, .inr ⟨HALL.out, .inr ⟨rfl, by simpa using hbig, by rw [hL]; simp⟩⟩⟩
        obtain ⟨c, hc⟩ : ∃ c, behindT p.regs p.slots (plainNames p.regs p.slots) (bops p.blocks b) (bops p.blocks b).length (n : Int) = c := ⟨_, rfl⟩
        rw [← hL] at hS ⊢
        unfold stV
        rw [hc]
        have b4 : Below w3.heap.size w3 (w3.alloc (.cells #[.slice (some ⟨P, 0, none⟩) n cap, .int .i64 (ckind c), .int .i64 (cval c), .slice co cn cc, .int .i64 c.size, .string (str (showT c)), .slice mo L.length mc, .bool false, .int .i64 p.regs, .int .i64 p.data] 181)) := (Below.refl _ _).alloc (Nat.le_refl _) _
        have hb4 : Below w.heap.size w (w3.alloc (.cells #[.slice (some ⟨P, 0, none⟩) n cap, .int .i64 (ckind c), .int .i64 (cval c), .slice co cn cc, .int .i64 c.size, .string (str (showT c)), .slice mo L.length mc, .bool false, .int .i64 p.regs, .int .i64 p.data] 181)) := (hb3.trans (b3.mono hb3.size)).alloc (Nat.le_trans hb3.size b3.size) _
        have hS4 := hS.next b4
        have hown := owns_base hS4.mrk (show w.heap.size ≤ Lo by have := hS4.hP; have := hS4.hP'; have := hb3.size; omega)
        have HF := Lib.hid (HP.out L 0 _ _ HX.out hown hb4)
        clear hc hL hbig hS hS4 b4 hb4 qb r2 hrd3 HP hown hb3 b3
        generalize L.length = ln at *
        go_wp2
        exact HF.out
    · have HX : Hid (MarksAns s block [] 4) := .inr ⟨p, hg, ht, .inl ⟨rfl, rfl, hall⟩⟩
      have HF := Lib.hid (HP.out [] 4 (.slice none 0 0) _ HX.out (World.ownsRow_nil _ _ _ _) hb3)
      clear hb3 hrd3 r2 HP
      have hdec : (decide (0 ≤ block) && decide (block < (p.blocks.length : Int))) = false := by
        rw [Bool.and_eq_false_iff]
        by_cases q : 0 ≤ block
        · exact .inr (by simp; omega)
        · exact .inl (by simp; omega)
      rw [hdec]
      clear hall hdec
      go_wp2
      exact HF.out
  · have HX : Hid (MarksAns s block [] 1) := .inl ⟨rfl, rfl, hn⟩
    have HF := Lib.hid (HP.out [] 1 (.slice none 0 0) _ HX.out (World.ownsRow_nil _ _ _ _) (hb1.alloc hb1.size (.cells #[.int .i64 0, .int .i64 0, .int .i64 0, .int .i64 0, .slice none 0 0] 25)))
    clear hb1 hn HP
    go_wp2
    exact HF.out

set_option maxRecDepth 100000 in
set_option maxHeartbeats 1000000 in
theorem tMarks_cps (s : ByteArray) (block : Int) (w : World) (hs : s.size ≤ maxLen) (htab : TabW w) (Post : Ending → World → Prop)
    (hp : ∀ l er v w', MarksAns s block l er → w'.ownsRow w.heap.size 9 1 v l.length (texts l) → Below w.heap.size w w' → Post (.returned (.tuple #[v, .int .i64 er])) w') :
    Calls Tryz.prog 88 #[.string s, .int .i64 block] w Post := by
  have hc := fun P' => cMarksOf_cps s block w hs htab P'
  go_enter Tryz.func88, Tryz.ntmps88
  go_wp2_with fail
  refine hc _ ?_
  intro l er v w1 ha ho hb
  obtain ⟨lo, lc, rfl⟩ := owns_slice ho
  have HF := Lib.hid (hp l er _ w1 ha ho hb)
  clear hc ha ho hb hp
  generalize l.length = ln at *
  go_wp2
  exact HF.out

end Go.Proofs.YtblhmeidbjigaabGreatDoor

/- Two lists of texts held side by side; marked. -/
set_option linter.unusedSimpArgs false
set_option linter.unusedVariables false
namespace Go.Proofs.YtblhmeidbjigaabGreatDoor
open Go.RowKit

set_option maxRecDepth 100000 in
set_option maxHeartbeats 1000000 in
theorem lTexts_any (u v : Value) (l : List (List UInt8)) (w : World) (hu : RdTexts w u l) (hv : RdTexts w v l) :
    Calls Tryz.prog 52 #[u, v] w fun e w' => e = .returned (.bool true) ∧ Below w.heap.size w w' := by
  obtain ⟨uo, uc, rfl, hul, hucs⟩ := hu
  obtain ⟨vo, vc, rfl, hvl, hvcs⟩ := hv
  go_enter Tryz.func52, Tryz.ntmps52
  go_wp2
  go_loopw [5] (fun i wr => ∃ (k : Nat), k ≤ l.length ∧ i = .int .i64 k ∧ Below w.heap.size w wr)
    (fun i _ => l.length - (intOf i).toNat)
  case atStart => exact ⟨0, Nat.zero_le _, rfl, Below.refl _ _⟩
  case round =>
    obtain ⟨k, hk, rfl, hbel⟩ := hrel
    by_cases hlt : k < l.length
    · obtain ⟨b, off, rfl, h1⟩ := hucs k hlt
      obtain ⟨b', off', rfl, h2⟩ := hvcs k hlt
      have g1 := cell_keep hbel h1
      have g2 := cell_keep hbel h2
      have hki : (k : Int) < (l.length : Int) := by omega
      have hbd : ∀ d, Below w.heap.size w (wr.drewN d) := fun d => below_drewN hbel d
      have he : ((str (l.getD k [])).toList == (str (l.getD k [])).toList) = true := by simp
      clear h1 h2 hucs hvcs
      generalize str (l.getD k []) = x at *
      go_wp2
      go_quiet (fail)
      go_wp2
      go_roundw
      case rel => exact ⟨k + 1, by omega, by go_num, hbd _⟩
      case measure => simp [intOf]; omega
    · go_wp2
      go_ret
      exact ⟨rfl, hbel⟩

theorem texts_set {l : List (List UInt8)} {k : Nat} (hk : k < l.length) (x : List UInt8) : (texts l).set k (.string (str x)) = texts (l.set k x) := by
  unfold texts
  rw [List.map_set]

/-- The first k texts are x. -/
def overT (l : List (List UInt8)) (x : List UInt8) (k : Nat) : List (List UInt8) := List.replicate k x ++ l.drop k

theorem overT_length (l : List (List UInt8)) (x : List UInt8) {k : Nat} (h : k ≤ l.length) : (overT l x k).length = l.length := by
  unfold overT; simp; omega

theorem overT_step {l : List (List UInt8)} (x : List UInt8) {k : Nat} (h : k < l.length) : (overT l x k).set k x = overT l x (k + 1) := by
  unfold overT
  rw [List.set_append_right _ _ (by simp)]
  simp only [List.length_replicate, Nat.sub_self]
  rw [List.drop_eq_getElem_cons h, List.set_cons_zero, List.replicate_succ', List.append_assoc]
  rfl

theorem texts_own {w : World} {B n : Nat} {ao : Option Addr} {cap : Nat} {l : List (List UInt8)} (h : w.ownsRow B 9 1 (.slice ao n cap) n (texts l)) {i : Nat} (hi : i < l.length) :
    ∃ g, ao = some ⟨g, 0, none⟩ ∧ B ≤ g ∧ g < w.heap.size ∧ (∃ u, w.cell? ⟨g, i, none⟩ = some (.string u)) ∧ ∀ o, w.frozen? ⟨g, o, none⟩ = false := by
  obtain ⟨b, rfl, hB, hb, hc⟩ := owns_cell h rfl (i := i) (by rw [texts_length]; exact hi)
  refine ⟨b, rfl, hB, (h.lt b hb).2, ⟨str l[i], ?_⟩, fun o => owns_frozen h hb o⟩
  rw [hc]
  simp [texts]

end Go.Proofs.YtblhmeidbjigaabGreatDoor

/- marked, with how many marks come out. -/
set_option linter.unusedSimpArgs false
set_option linter.unusedVariables false
namespace Go.Proofs.YtblhmeidbjigaabGreatDoor
open Go.RowKit

theorem marksT_len (regs slots data : Int) (names : List Int) (ops : List OpD) : ∀ k, (marksT regs slots data names ops k).length ≤ k := by
  intro k
  induction k with
  | zero => simp [marksT]
  | succ k ih =>
    simp only [marksT]
    split
    · rw [List.length_append]; simp only [List.length_singleton]; omega
    · omega

theorem MarksAns.len {s : ByteArray} {block : Int} {l : List (List UInt8)} {e : Int} (h : MarksAns s block l e) : l.length ≤ 1000 := by
  rcases h with ⟨_, rfl, _⟩ | ⟨p, hg, _, h⟩
  · simp
  · rcases h with ⟨_, rfl, _⟩ | ⟨hb, h⟩
    · simp
    · rcases h with ⟨_, rfl, _⟩ | ⟨_, _, rfl⟩
      · simp
      · have h1 := marksT_len p.regs p.slots p.data (plainNames p.regs p.slots) (bops p.blocks block.toNat) (bops p.blocks block.toNat).length
        have h2 : (bops p.blocks block.toNat).length ≤ 12 := by
          simp only [progGood, Bool.and_eq_true, decide_eq_true_eq] at hg
          exact (blocksGood_at hg.2 (show block.toNat < p.blocks.length by omega)).1
        omega

set_option maxRecDepth 100000 in
set_option maxHeartbeats 2000000 in
theorem marked2_cps (s : ByteArray) (block kk : Int) (hkk : W64 kk) (w : World) (hs : s.size ≤ maxLen) (htab : TabW w) (Post : Ending → World → Prop)
    (hp : ∀ n v w', n ≤ 1000 → w'.ownsRow w.heap.size 9 1 v n (texts (List.replicate n (Lib.itoa kk))) → Below w.heap.size w w' → Post (.returned (.tuple #[v, .bool true])) w') :
    Calls Tryz.prog 47 #[.string s, .int .i64 block, .int .i64 kk] w Post := by
  have q1 := fun P' => tMarks_cps s block w hs htab P'
  go_enter Tryz.func47, Tryz.ntmps47
  go_wp2_with fail
  refine q1 _ ?_
  intro l er v w1 ha ho hb
  obtain ⟨lo, lc, rfl⟩ := owns_slice ho
  have q2 := fun P' => rMarks_cps s block w1 hs (htab.keep hb) P'
  clear q1
  go_wp2_with fail
  refine q2 _ ?_
  intro m fr v2 w2 ha2 ho2 hb2
  obtain ⟨rfl, rfl⟩ := ha.one ha2
  have HLEN := Lib.hid ha.len
  obtain ⟨mo, mc, rfl⟩ := owns_slice ho2
  have ho3 := owns_below ho hb2 (Nat.le_refl _)
  have q3 := lTexts_any (.slice lo l.length lc) (.slice mo l.length mc) l w2 (texts_rd ho3) (texts_rd ho2)
  have hb3 := hb.trans (hb2.mono hb.size)
  clear q2 ha ha2 ho ho2 hb hb2
  go_wp2_with fail
  refine q3.mono ?_
  rintro e w3 ⟨rfl, b3⟩
  have ho4 := owns_below ho3 b3 (Nat.le_refl _)
  have hb4 := hb3.trans (b3.mono hb3.size)
  have hll := owns_le ho4
  have hE : (er == er) = true := by simp
  have HO := Lib.hid ho4
  have HB := Lib.hid hb4
  have HP := Lib.hid hp
  have HT := Lib.hid htab
  have hn : overT l (Lib.itoa kk) 0 = l := by simp [overT]
  obtain ⟨n, hln⟩ : ∃ n, n = l.length := ⟨_, rfl⟩
  have HLN := Lib.hid hln
  rw [← hln] at HO hll ⊢
  have H0 : Hid (w3.ownsRow w.heap.size 9 1 (.slice lo n lc) n (texts (overT l (Lib.itoa kk) 0))) := by rw [hn]; exact HO.out
  clear q3 ho3 ho4 hb3 hb4 b3 hp htab hn HO hln
  go_wp2
  go_loopw [13] (fun i wr => ∃ (k : Nat), k ≤ n ∧ i = .int .i64 k ∧ wr.ownsRow w.heap.size 9 1 (.slice lo n lc) n (texts (overT l (Lib.itoa kk) k)) ∧ Below w.heap.size w wr)
    (fun i _ => n - (intOf i).toNat)
  case atStart => exact ⟨0, Nat.zero_le _, rfl, H0.out, HB.out⟩
  case round =>
    clear H0 HB
    obtain ⟨k, hk, rfl, hown, hbel⟩ := hrel
    by_cases hlt : k < n
    · have q4 := itoa_any kk hkk wr (HT.out.keep hbel)
      have hki : (0 : Int) ≤ (k : Int) := by omega
      have hkj : (k : Int) < (n : Int) := by omega
      go_wp2_with fail
      refine q4.mono ?_
      rintro e w5 ⟨rfl, b5⟩
      have own5 := owns_below hown b5 (Nat.le_refl _)
      have bel5 := hbel.trans (b5.mono hbel.size)
      have hkl : k < (overT l (Lib.itoa kk) k).length := by rw [overT_length _ _ (by rw [← HLN.out]; omega), ← HLN.out]; exact hlt
      obtain ⟨g, rfl, hgB, hgl, ⟨u, c5⟩, f5⟩ := texts_own own5 hkl
      have own6 := owns_set own5 (g := g) rfl (i := k) (by rw [texts_length]; exact hkl) (.string (str (Lib.itoa kk)))
      rw [texts_set hkl, overT_step _ (by rw [← HLN.out]; exact hlt)] at own6
      have bel6 := cbelow_set bel5 hgB (i := k) (.string (str (Lib.itoa kk)))
      have fk := f5 k
      clear q4 own5 bel5 b5 hown hbel f5 hkl
      generalize str (Lib.itoa kk) = X at *
      go_wp2
      go_roundw
      case rel => exact ⟨k + 1, by omega, by go_num, own6, bel6⟩
      case measure => simp [intOf]; omega
    · obtain rfl : k = n := by omega
      have hfin : overT l (Lib.itoa kk) k = List.replicate k (Lib.itoa kk) := by
        unfold overT
        rw [HLN.out, List.drop_length, List.append_nil]
      rw [hfin] at hown
      have HF := Lib.hid (HP.out k _ wr (by have := HLEN.out; have := HLN.out; omega) hown hbel)
      clear hown hbel HP HT hfin
      go_wp2
      exact HF.out

end Go.Proofs.YtblhmeidbjigaabGreatDoor

/- Lists of texts that are copied. -/
set_option linter.unusedSimpArgs false
set_option linter.unusedVariables false
namespace Go.Proofs.YtblhmeidbjigaabGreatDoor
open Go.RowKit

theorem one_any0 (w : World) (a : Value) (t : TypeId) : ∀ j u, [a][j]? = some u → (w.alloc (.cells #[a] t)).cell? ((⟨w.heap.size, 0, none⟩ : Addr).add j) = some u := by
  intro j u hj
  have r : Row (w.alloc (.cells #[a] t)) w.heap.size t [a] := heap_alloc_new w _
  rw [Addr.add_lit, Nat.zero_add]
  exact r.cell hj

theorem rdt_none {w : World} {n sc : Nat} {l : List (List UInt8)} {so : Option Addr} (h : RdTexts w (.slice so n sc) l) : so = none → texts l = [] := by
  rintro rfl
  obtain ⟨ao, cap, e, _, hc⟩ := h
  simp only [Value.slice.injEq] at e
  obtain ⟨e1, _, _⟩ := e
  cases l with
  | nil => rfl
  | cons x r =>
    obtain ⟨b, off, e2, _⟩ := hc 0 (by simp)
    rw [← e1] at e2
    cases e2

theorem rdt_cells {w : World} {n sc : Nat} {l : List (List UInt8)} {so : Option Addr} (h : RdTexts w (.slice so n sc) l) : ∀ ad, so = some ad → ∀ j u, (texts l)[j]? = some u → w.cell? (ad.add j) = some u := by
  rintro ad rfl j u hj
  obtain ⟨ao, cap, e, _, hc⟩ := h
  simp only [Value.slice.injEq] at e
  obtain ⟨e1, _, _⟩ := e
  have hjl : j < l.length := by
    have := (List.getElem?_eq_some_iff.1 hj).1
    rw [texts_length] at this
    exact this
  obtain ⟨b, off, e2, hcell⟩ := hc j hjl
  rw [← e1] at e2
  simp only [Option.some.injEq] at e2
  subst e2
  rw [Addr.add_lit, hcell, ← hj]
  simp [texts, List.getD, hjl]

theorem texts_one (l : List (List UInt8)) : ∀ u ∈ texts l, u.oneCell' = true := by
  intro u hu
  simp only [texts, List.mem_map] at hu
  obtain ⟨x, _, rfl⟩ := hu
  rfl

theorem full_rowT (l : List (List UInt8)) : texts l ++ (pad [Value.string ⟨#[]⟩] l.length).drop (texts l).length = texts l := by
  rw [List.drop_eq_nil_of_le (by rw [pad_length, texts_length]; simp), List.append_nil]

end Go.Proofs.YtblhmeidbjigaabGreatDoor
