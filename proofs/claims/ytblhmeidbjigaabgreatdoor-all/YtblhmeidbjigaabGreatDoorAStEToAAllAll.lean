/- The step Marks of All. -/
import Derived.Test.YtblhmeidbjigaabGreatDoorRows
import Derived.WalkKit
import Derived.WalkSpells
import Derived.WalkLawsBesides
import Derived.Laws.BytesArg
import Derived.Deep.QuietTactic
import Derived.BigQuiet
import Derived.Deep.RegionHeld3
import Derived.Lib.ItoaNum
import Derived.Lib.ItoaLen
import Derived.OpenShut
import Derived.Maps.AppendAt
import Derived.Shelf.Strconv.Itoa3
import Derived.Shelf.Lay
import Derived.Ground.NamesProg
import Derived.Lib.SmallJoins
import Derived.Lib.Hide
import Derived.StillTailTactics
import Derived.ProofKit
import Derived.SizedLaws
import Derived.Deep.Slices
import Derived.ShutString
import Derived.ChangeOld
import Derived.Deep.Strs
import Derived.Test.YtblhmeidbjigaabGreatDoorAStCToAStQAll

set_option linter.unusedSimpArgs false
set_option linter.unusedVariables false
namespace Go.Proofs.YtblhmeidbjigaabGreatDoor
open Go.RowKit Go.Deep

set_option maxRecDepth 100000 in
set_option maxHeartbeats 4000000 in
theorem step_7 (w0 w : World) (n : Nat) (o : StepD) (val : Nat → Value) (cnt : Nat → Nat) (cel : Nat → List Value) (ps : List PI) (hs : List HI) (os : List OI) (ms : List MI) (h : ASt w0 w n val cnt cel ps hs os ms) (hok : OkStep w0 o) (hn9 : n ≤ 628292358710) (htab : TabW w0) (Post : Ending → World → Prop) (hk : o.kind = 7)
    (hp : ∀ w' val' cnt' cel' ps' hs' os' ms', ASt w0 w' (n + 1) val' cnt' cel' ps' hs' os' ms' → Post (.returned (.bool true)) w') :
    Calls Tryz.prog 28 #[.pointer (some ⟨w0.heap.size, 0, none⟩), .agg (stepC o).toArray] w Post := by
  obtain ⟨i0, ii, iz0, iz1, iz2⟩ := info_parts Tryz.infoStrsA
  obtain ⟨s0, si, sz0, sz1, sz2⟩ := info_parts Tryz.infoStr
  obtain ⟨kd, s, t, hh, a0, a1, a2, a3, pv, bl, hv, hl, av, mv, sv, la, lm, ls, a, b⟩ := o
  dsimp only at hk
  subst hk
  obtain ⟨zs, zt, zh, kp, kpl, kpo, kg, kgl, kgo, kra, krm, krs, kla, klm, kls⟩ := hok
  dsimp only at zs zt zh kp kpl kpo kg kgl kgo kra krm krs kla klm kls
  obtain ⟨po, pc, rfl, _, _⟩ := id kp
  obtain ⟨ho, hc, rfl, _, _⟩ := id kg
  obtain ⟨ao, ac, rfl, _, _⟩ := id kra
  obtain ⟨mo, mc, rfl, _, _⟩ := id krm
  obtain ⟨so, sc, rfl, _, _⟩ := id krs
  obtain ⟨bn, hbn⟩ : ∃ x, x = bl.length := ⟨_, rfl⟩
  obtain ⟨hn, hhn⟩ : ∃ x, x = hl.length := ⟨_, rfl⟩
  obtain ⟨an, han⟩ : ∃ x, x = la.length := ⟨_, rfl⟩
  obtain ⟨mn, hmn⟩ : ∃ x, x = lm.length := ⟨_, rfl⟩
  obtain ⟨sn, hsn⟩ : ∃ x, x = ls.length := ⟨_, rfl⟩
  show Calls Tryz.prog 28 #[.pointer (some ⟨w0.heap.size, 0, none⟩), .agg #[.int .i64 7, .string s, .string t, .string hh, .int .i64 a0, .int .i64 a1, .int .i64 a2, .int .i64 a3, .slice po bl.length pc, .slice ho hl.length hc, .slice ao la.length ac, .slice mo lm.length mc, .slice so ls.length sc, .int .i64 a, .int .i64 b]] w Post
  rw [← hbn] at kp ⊢
  rw [← hhn] at kg ⊢
  rw [← han] at kra ⊢
  rw [← hmn] at krm ⊢
  rw [← hsn] at krs ⊢
  have hB : w0.heap.size < w.heap.size := h.mem.row.lt
  obtain ⟨W0, hW0⟩ : ∃ x, x = w.setCell ⟨w0.heap.size, 0, none⟩ (.int .i64 ((n : Int) + 1)) := ⟨_, rfl⟩
  have d0 : ∀ o, (w.alloc o).cell? ⟨w0.heap.size, 0, none⟩ = some (.int .i64 (n : Int)) := fun o => (h.mem.row.alloc o).cell (i := 0) rfl
  have g0 : ∀ o, (w.alloc o).frozen? ⟨w0.heap.size, 0, none⟩ = false := fun o => (h.mem.row.alloc o).frozen 0
  have d0' : w.cell? ⟨w0.heap.size, 0, none⟩ = some (.int .i64 (n : Int)) := h.mem.row.cell (i := 0) rfl
  have g0' : w.frozen? ⟨w0.heap.size, 0, none⟩ = false := h.mem.row.frozen 0
  have hA := h.count
  rw [← hW0] at hA
  obtain ⟨W1, hW1⟩ : ∃ x, x = W0.alloc (.cells #[.int .i64 7, .string s, .string t, .string hh, .int .i64 a0, .int .i64 a1, .int .i64 a2, .int .i64 a3, .slice po bn pc, .slice ho hn hc, .slice ao an ac, .slice mo mn mc, .slice so sn sc, .int .i64 a, .int .i64 b] 83) := ⟨_, rfl⟩
  have bA : Below W0.heap.size W0 W1 := by rw [hW1]; exact (Below.refl _ _).alloc (Nat.le_refl _) _
  have h1 := hA.keep bA
  have hz0 : W0.heap.size = w.heap.size := by rw [hW0]; simp
  have rS : Row W1 w.heap.size 83 [.int .i64 7, .string s, .string t, .string hh, .int .i64 a0, .int .i64 a1, .int .i64 a2, .int .i64 a3, .slice po bn pc, .slice ho hn hc, .slice ao an ac, .slice mo mn mc, .slice so sn sc, .int .i64 a, .int .i64 b] := by rw [← hz0, hW1]; exact heap_alloc_new W0 _
  have b1 : Below w0.heap.size w0 W1 := h1.below
  have hlp := h.lp
  have hlh := h.lh
  have hlo := h.lo
  have hlm := h.lm
  have hwn : IntKind.i64.wrap ((n : Int) + 1) = (n : Int) + 1 := by rw [IntKind.wrap_i64]; omega
  have HP := Lib.hid hp
  have H1 := Lib.hid h1
  clear hp h hA bA h1 hbn hhn han hmn hsn hz0
  have x0 := rS.cell (i := 0) rfl
  have y0 : ∀ V, Below W1.heap.size W1 V → V.cell? ⟨w0.heap.size, 0, none⟩ = some (.int .i64 ((n : Int) + 1)) := fun V hV => cell_keep hV (H1.out.mem.row.cell (i := 0) rfl)
  have y1 : ∀ V, Below W1.heap.size W1 V → V.cell? ⟨w.heap.size, 1, none⟩ = some (.string s) := fun V hV => cell_keep hV (rS.cell (i := 1) rfl)
  have y5 : ∀ V, Below W1.heap.size W1 V → V.cell? ⟨w.heap.size, 13, none⟩ = some (.int .i64 a) := fun V hV => cell_keep hV (rS.cell (i := 13) rfl)
  have k0 : Below W1.heap.size W1 W1.drew := (Below.refl _ _).drew
  have q1 := fun P' => marked2_cps s a ((n : Int) + 1) ⟨by omega, by omega⟩ W1.drew zs (htab.keep (b1.trans (k0.mono b1.size))) P'
  rw [hW1, hW0] at x0
  have HW : Hid (W1 = (w.setCell ⟨w0.heap.size, 0, none⟩ (.int .i64 ((n : Int) + 1))).alloc (.cells #[.int .i64 7, .string s, .string t, .string hh, .int .i64 a0, .int .i64 a1, .int .i64 a2, .int .i64 a3, .slice po bn pc, .slice ho hn hc, .slice ao an ac, .slice mo mn mc, .slice so sn sc, .int .i64 a, .int .i64 b] 83)) := by show _ = _; rw [hW1, hW0]
  clear rS hW0 hW1 b1 kp kpl kpo kg kgl kgo kra krm krs kla klm kls htab
  go_enter Tryz.func28, Tryz.ntmps28
  go_wp2
  rw [← HW.out]
  clear HW x0 d0 g0 d0' g0'
  go_region_held3 (fun V => Below W1.heap.size W1 V) (first | with_reducible exact k0 | with_reducible exact b3) (first | (go_at_call 47; refine q1 _ ?_; intro m v w3 hm own3 b3'; obtain ⟨vo, vc, hvv⟩ := owns_slice own3; subst hvv; have b3 : Below W1.heap.size W1 w3 := k0.trans (b3'.mono k0.size)))
  obtain ⟨lt, hlt⟩ : ∃ x, x = List.replicate m (Lib.itoa ((n : Int) + 1)) := ⟨_, rfl⟩
  have hltl : lt.length = m := by rw [hlt]; simp
  rw [← hlt] at own3
  have HLT := Lib.hid hltl
  have own3' : w3.ownsRow W1.drew.heap.size 9 1 (.slice vo m vc) lt.length (texts lt) := by rw [hltl]; exact own3
  have HO3 := Lib.hid own3'
  have HB3 := Lib.hid b3
  clear q1 k0 y0 y1 y5 b3 b3' own3 own3' hlt hltl
  go_wp2_with (at_make; refine wpList_make_row _ rfl _ _ 105 rfl 9 s0 _ [.string ⟨#[]⟩] Tryz.underlying105 si sz0 sz1 rfl (by decide) _ _ _ _ m rfl rfl (by simp) (by simp) ?e1 ?e2 ?_)
  case e1 => first | omega | (rw [sz2]; omega)
  case e2 => unfold maxLen; omega
  intro w4 hP hb4 hz4
  clear hz4
  have rd4 := texts_rd (owns_below HO3.out hb4 (Nat.le_refl _))
  obtain ⟨cA, hcA⟩ : ∃ x, x = w3.heap.size := ⟨_, rfl⟩
  rw [← hcA] at hP ⊢
  have HCA := Lib.hid hcA
  clear hcA
  go_wp2_with (refine wpList_copy_row _ rfl (.tmp 187) (.tmp 188) 105 rfl 9 s0 Tryz.underlying105 si 1 sz1 cA _ _ vo _ _ rfl rfl _ hP (texts lt) ?g1 (rdt_none rd4) (rdt_cells rd4) ?g2 (texts_one _) ?_)
  case g1 => rw [texts_length, HLT.out]; simp [Nat.min_def]
  case g2 => rw [texts_length, pad_length, HLT.out]; simp
  intro X2 hR hU
  have hR' : Row X2 cA 9 (texts lt) := by
    have e : texts lt ++ (pad [Value.string ⟨#[]⟩] m).drop (texts lt).length = texts lt := by rw [← HLT.out]; exact full_rowT lt
    rw [e] at hR
    exact hR
  have bX2 : Below w3.heap.size w3 X2 := hU.below hb4 (by rw [HCA.out]; exact Nat.le_refl _)
  have S2 : ASt w0 X2 (n + 1) val cnt cel ps hs os ms := (H1.out.keep HB3.out).keep bX2
  have in1 : InT X2 (fun w' => RdTexts w' (.slice vo m vc) lt) := (texts_in HO3.out).next (Same6.of_below bX2)
  have in2 : InT X2 (fun w' => RdTexts w' (.slice (some ⟨cA, 0, none⟩) m m) lt) := by
    have := rowT_in (cap := m) hR' (by rw [HLT.out]; omega)
    rw [HLT.out] at this
    exact this
  have HM := Lib.hid S2.mem
  have HS2 := Lib.hid S2
  have HIN : Hid (InT X2 (fun w' => RdTexts w' (.slice vo m vc) lt) ∧ InT X2 (fun w' => RdTexts w' (.slice (some ⟨cA, 0, none⟩) m m) lt)) := ⟨in1, in2⟩
  have hv0 : cnt 6 ≤ n := by rw [S2.ok.n6]; exact hlm
  have hv1 : cnt 7 ≤ n := by rw [S2.ok.n7]; exact hlm
  clear rd4 hP hb4 hR hR' hU bX2 S2 in1 in2
  obtain ⟨goA, gcA, hgvA⟩ := owns_slice (HM.out.own 6 (by omega))
  have hgoA := HM.out.own 6 (by omega)
  rw [hgvA] at hgoA
  obtain ⟨gnA, hgnA⟩ : ∃ x, cnt 6 = x := ⟨_, rfl⟩
  obtain ⟨gxA, hgxA⟩ : ∃ x, cel 6 = x := ⟨_, rfl⟩
  rw [hgnA, hgxA] at hgoA
  rw [hgnA] at hgvA
  have grA := HM.out.row.cell (i := 7) rfl
  rw [hgvA] at grA
  have hbzA : w0.heap.size < X2.heap.size := HM.out.row.lt
  have glA : gnA ≤ n := by rw [← hgnA]; exact hv0
  go_wp2_with (at_builtin; refine wpList_append_own_at _ rfl _ _ 78 rfl (w0.heap.size + 1) 105 i0 (.slice none 0 0) 1 24 Tryz.underlying78 ii iz0 iz1 iz2 rfl (by decide) _ _ _ rfl (hgoA.alloc _) ⟨X2.heap.size, 0, none⟩ 1 1 [.slice vo m vc] rfl rfl ?c1A (slice_one1 _ _ _) ?c3A ?c4A ?c5A ?_)
  try (case c1A => intro j u hj; simpa using one_any0 X2 (.slice vo m vc) 105 j u hj)
  case c3A => unfold maxLen; omega
  case c4A => omega
  case c5A => first | omega | (simp; omega)
  intro vA wA hownA hgrowA _ hlocA
  have GA := HM.out.grow (w1 := X2.alloc (.cells #[.slice vo m vc] 105)) ((Below.refl _ _).alloc (Nat.le_refl _) _) (k := 6) (by omega) (by rw [hgvA]; exact hgrowA) (by rw [hgnA, hgxA]; exact hownA) (by rw [hgvA]; simpa using hlocA)
  have rbA := ((HM.out.row.alloc (.cells #[.slice vo m vc] 105)).kept (S := fun g => (Value.slice goA gnA gcA).ownBlock = some g) ((Keep.refl _ _).grown hgrowA (fun g e => .inl e)) (fun e => by have := (hgoA.lt w0.heap.size e).1; omega))
  have ybA := rbA.cell (i := 7) rfl
  have yfA := rbA.frozen 7
  obtain ⟨boA, bcA, hvvA⟩ := owns_slice hownA
  subst hvvA
  have HGA := Lib.hid GA
  have HRBA := Lib.hid rbA
  clear GA rbA hownA hgrowA hlocA hgoA
  obtain ⟨X3, hX3⟩ : ∃ x, x = wA.setCell ⟨w0.heap.size, 7, none⟩ (.slice boA (gnA + 1) bcA) := ⟨_, rfl⟩
  have gA : Mem8 X3 w0.heap.size ((n + 1 : Nat) : Int) (upd val 6 (.slice boA (gnA + 1) bcA)) (upd cnt 6 (cnt 6 + 1)) (upd cel 6 (cel 6 ++ [.slice vo m vc])) ∧ Same6 X2 X3 ∧ Keep (fun g => (val 6).ownBlock = some g ∨ g = w0.heap.size) X2 X3 := by rw [hX3]; exact HGA.out
  have HMA := Lib.hid gA.1
  have HSA := Lib.hid gA.2.1
  have HKA := Lib.hid gA.2.2
  have HX3 := Lib.hid hX3
  clear gA HGA
  obtain ⟨goB, gcB, hgvB⟩ := owns_slice (HMA.out.own 7 (by omega))
  have hgoB := HMA.out.own 7 (by omega)
  rw [hgvB] at hgoB
  obtain ⟨gnB, hgnB⟩ : ∃ x, upd cnt 6 (cnt 6 + 1) 7 = x := ⟨_, rfl⟩
  obtain ⟨gxB, hgxB⟩ : ∃ x, upd cel 6 (cel 6 ++ [.slice vo m vc]) 7 = x := ⟨_, rfl⟩
  rw [hgnB, hgxB] at hgoB
  rw [hgnB] at hgvB
  have grB := HMA.out.row.cell (i := 8) rfl
  rw [hgvB] at grB
  have hbzB : w0.heap.size < X3.heap.size := HMA.out.row.lt
  have glB : gnB ≤ n := by rw [← hgnB]; exact (by simpa [upd] using hv1)
  have ycB : wA.cell? ⟨w0.heap.size, 8, none⟩ = some (.slice goB gnB gcB) := by
    have h1 := HRBA.out.cell (i := 8) rfl
    have h2 := hgvB
    simp only [upd] at h2
    rw [if_neg (by decide)] at h2
    rw [h2] at h1
    exact h1
  clear grB hX3
  go_wp2_with (at_builtin; rw [← HX3.out]; refine wpList_append_own_at _ rfl _ _ 78 rfl (w0.heap.size + 1) 105 i0 (.slice none 0 0) 1 24 Tryz.underlying78 ii iz0 iz1 iz2 rfl (by decide) _ _ _ rfl (hgoB.alloc _) ⟨X3.heap.size, 0, none⟩ 1 1 [.slice (some ⟨cA, 0, none⟩) m m] ?c0B rfl ?c1B (slice_one1 _ _ _) ?c3B ?c4B ?c5B ?_)
  try (case c1B => intro j u hj; simpa using one_any0 X3 (.slice (some ⟨cA, 0, none⟩) m m) 105 j u hj)
  case c0B =>
    have e : X3.heap.size = wA.heap.size := by rw [HX3.out]; simp
    rw [e]
    first | rfl | simp [Act.eval]
  case c3B => unfold maxLen; omega
  case c4B => omega
  case c5B => first | omega | (simp; omega)
  intro vB wB hownB hgrowB _ hlocB
  have GB := HMA.out.grow (w1 := X3.alloc (.cells #[.slice (some ⟨cA, 0, none⟩) m m] 105)) ((Below.refl _ _).alloc (Nat.le_refl _) _) (k := 7) (by omega) (by rw [hgvB]; exact hgrowB) (by rw [hgnB, hgxB]; exact hownB) (by rw [hgvB]; simpa using hlocB)
  have rbB := ((HMA.out.row.alloc (.cells #[.slice (some ⟨cA, 0, none⟩) m m] 105)).kept (S := fun g => (Value.slice goB gnB gcB).ownBlock = some g) ((Keep.refl _ _).grown hgrowB (fun g e => .inl e)) (fun e => by have := (hgoB.lt w0.heap.size e).1; omega))
  have ybB := rbB.cell (i := 8) rfl
  have yfB := rbB.frozen 8
  obtain ⟨boB, bcB, hvvB⟩ := owns_slice hownB
  subst hvvB
  have HGB := Lib.hid GB
  have HRBB := Lib.hid rbB
  clear GB rbB hownB hgrowB hlocB hgoB
  obtain ⟨X4, hX4⟩ : ∃ x, x = wB.setCell ⟨w0.heap.size, 8, none⟩ (.slice boB (gnB + 1) bcB) := ⟨_, rfl⟩
  have gB : Mem8 X4 w0.heap.size ((n + 1 : Nat) : Int) (upd (upd val 6 (.slice boA (gnA + 1) bcA)) 7 (.slice boB (gnB + 1) bcB)) (upd (upd cnt 6 (cnt 6 + 1)) 7 (upd cnt 6 (cnt 6 + 1) 7 + 1)) (upd (upd cel 6 (cel 6 ++ [.slice vo m vc])) 7 (upd cel 6 (cel 6 ++ [.slice vo m vc]) 7 ++ [.slice (some ⟨cA, 0, none⟩) m m])) ∧ Same6 X3 X4 ∧ Keep (fun g => (upd val 6 (.slice boA (gnA + 1) bcA) 7).ownBlock = some g ∨ g = w0.heap.size) X3 X4 := by rw [hX4]; exact HGB.out
  have hb3 : Below w0.heap.size w0 X3 := HS2.out.below.trans (HKA.out.toBelow HS2.out.below.size (fun g e => by
    rcases e with e | e
    · have := ((HM.out.own 6 (by omega)).lt g e).1; omega
    · omega))
  have hb4 : Below w0.heap.size w0 X4 := hb3.trans (gB.2.2.toBelow hb3.size (fun g e => by
    rcases e with e | e
    · have := ((HMA.out.own 7 (by omega)).lt g e).1; omega
    · omega))
  obtain ⟨val', cnt', cel', F⟩ := HS2.out.addM ⟨.slice vo m vc, .slice (some ⟨cA, 0, none⟩) m m, lt⟩ (by omega) gB.1 (by simp [upd]) (by simp [upd]) (HSA.out.trans gB.2.1) HIN.out hb4
  have HF := Lib.hid (HP.out X4 _ _ _ _ _ _ _ F)
  rw [hX4] at HF
  clear F gB hb3 hb4 hX4 HGB HP HS2 HM HMA HSA HKA HIN H1
  go_wp2
  first | exact HF.out | (go_ret; exact HF.out)

end Go.Proofs.YtblhmeidbjigaabGreatDoor

/- sameTexts. -/
set_option linter.unusedSimpArgs false
set_option linter.unusedVariables false
namespace Go.Proofs.YtblhmeidbjigaabGreatDoor
open Go.RowKit

set_option maxRecDepth 100000 in
set_option maxHeartbeats 1000000 in
theorem aTexts_any (u v : Value) (l : List (List UInt8)) (w : World) (hu : RdTexts w u l) (hv : RdTexts w v l) :
    Calls Tryz.prog 52 #[u, v] w fun e w' => e = .returned (.bool true) ∧ Below w.heap.size w w' := by
  obtain ⟨uo, uc, rfl, hul, hucs⟩ := hu
  obtain ⟨vo, vc, rfl, hvl, hvcs⟩ := hv
  go_enter Tryz.func52, Tryz.ntmps52
  go_wp2
  go_loopw [5] (fun i wr => ∃ (k : Nat), k ≤ l.length ∧ i = .int .i64 k ∧ Below w.heap.size w wr)
    (fun i _ => l.length - (intOf i).toNat)
  case atStart => exact ⟨0, Nat.zero_le _, rfl, Below.refl _ _⟩
  case round =>
    obtain ⟨k, hk, rfl, hbel⟩ := hrel
    by_cases hlt : k < l.length
    · obtain ⟨b, off, rfl, h1⟩ := hucs k hlt
      obtain ⟨b', off', rfl, h2⟩ := hvcs k hlt
      have g1 := cell_keep hbel h1
      have g2 := cell_keep hbel h2
      have hki : (k : Int) < (l.length : Int) := by omega
      have hbd : ∀ d, Below w.heap.size w (wr.drewN d) := fun d => below_drewN hbel d
      have he : ((str (l.getD k [])).toList == (str (l.getD k [])).toList) = true := by simp
      clear h1 h2 hucs hvcs
      generalize str (l.getD k []) = x at *
      go_wp2
      go_quiet (fail)
      go_wp2
      go_roundw
      case rel => exact ⟨k + 1, by omega, by go_num, hbd _⟩
      case measure => simp [intOf]; omega
    · go_wp2
      go_ret
      exact ⟨rfl, hbel⟩

end Go.Proofs.YtblhmeidbjigaabGreatDoor

/- (*twinlaw.World).looks: every list that came out reads as its copy. -/
set_option linter.unusedSimpArgs false
set_option linter.unusedVariables false
namespace Go.Proofs.YtblhmeidbjigaabGreatDoor
open Go.RowKit Go.Deep

set_option maxRecDepth 100000 in
set_option maxHeartbeats 2000000 in
theorem looks_cps (w0 w : World) (n : Nat) (val : Nat → Value) (cnt : Nat → Nat) (cel : Nat → List Value) (ps : List PI) (hs : List HI) (os : List OI) (ms : List MI) (h : ASt w0 w n val cnt cel ps hs os ms) (hn9 : n ≤ 628292358711) (Post : Ending → World → Prop)
    (hp : ∀ w', Below w.heap.size w w' → Post (.returned (.bool true)) w') :
    Calls Tryz.prog 29 #[.pointer (some ⟨w0.heap.size, 0, none⟩)] w Post := by
  have H := Lib.hid h
  have HP := Lib.hid hp
  clear h hp
  go_enter Tryz.func29, Tryz.ntmps29
  go_wp2
  go_loopw [3] (fun iv wi => ∃ (i : Nat), i ≤ ps.length ∧ iv = .int .i64 i ∧ Below w.heap.size w wi)
    (fun iv _ => ps.length - (intOf iv).toNat)
  case atStart => exact ⟨0, Nat.zero_le _, rfl, Below.refl _ _⟩
  case round =>
    obtain ⟨i, hi, rfl, hb⟩ := hrel
    have hS := H.out.keep hb
    have hl9 : ps.length ≤ n := hS.lp
    obtain ⟨u1, c1, hv1⟩ := owns_slice (hS.mem.own 0 (by omega))
    obtain ⟨u2, c2, hv2⟩ := owns_slice (hS.mem.own 1 (by omega))
    rw [hS.ok.n0] at hv1
    rw [hS.ok.n1] at hv2
    have r1 := hS.mem.row.cell (i := 1) rfl
    have r2 := hS.mem.row.cell (i := 2) rfl
    rw [hv1] at r1
    rw [hv2] at r2
    obtain ⟨N, hN⟩ : ∃ N, N = ps.length := ⟨_, rfl⟩
    rw [← hN] at r1 r2 hi hl9 ⊢
    by_cases hlt : i < N
    · have hlt' : i < ps.length := by rw [← hN]; exact hlt
      have o1 := hS.mem.own 0 (by omega)
      have o2 := hS.mem.own 1 (by omega)
      rw [hS.ok.n0, hS.ok.c0, hv1] at o1
      rw [hS.ok.n1, hS.ok.c1, hv2] at o2
      obtain ⟨x, hx⟩ : ∃ x, x = ps[i] := ⟨_, rfl⟩
      have f1 := flat_get (fun x => pC x x.v) 5 (fun x => rfl) ps i
      have f2 := flat_get (fun x => pC x x.v2) 5 (fun x => rfl) ps i
      obtain ⟨b1, e1, j1, ob1, j2⟩ := owns_cell o1 rfl (i := i * 5) (by have := f1 0 hlt' (by omega); rw [Nat.add_zero] at this; exact (List.getElem?_eq_some_iff.1 this).1)
      obtain ⟨b2, e2, j3, ob2, j4⟩ := owns_cell o2 rfl (i := i * 5) (by have := f2 0 hlt' (by omega); rw [Nat.add_zero] at this; exact (List.getElem?_eq_some_iff.1 this).1)
      clear j1 j2 j3 j4
      subst e1
      subst e2
      have hpC : ∀ j u, ((fun x => pC x x.v) ps[i])[j]? = some u → j < 5 → wr.cell? ⟨b1, i * 5 + j, none⟩ = some u := fun j u hu hj => by
        have := o1.cells (g := b1) ob1 (i * 5 + j) u (by rw [← hu]; exact f1 j hlt' hj)
        rwa [Addr.add_lit, Nat.zero_add] at this
      have hqC : ∀ j u, ((fun x => pC x x.v2) ps[i])[j]? = some u → j < 5 → wr.cell? ⟨b2, i * 5 + j, none⟩ = some u := fun j u hu hj => by
        have := o2.cells (g := b2) ob2 (i * 5 + j) u (by rw [← hu]; exact f2 j hlt' hj)
        rwa [Addr.add_lit, Nat.zero_add] at this
      rw [← hx] at hpC hqC
      have ok := hS.ok.okp x (by rw [hx]; exact List.getElem_mem hlt')
      obtain ⟨a0, a1, a2, a3, v, v2, l⟩ := x
      dsimp only at ok hpC hqC
      have k0 : Below wr.heap.size wr wr.drew := (Below.refl _ _).drew
      have rd1 : RdBlocks wr v l := ok.1.here
      have rd2 : RdBlocks wr v2 l := ok.2.here
      have q5 := sameProg_any a0 a1 a2 a3 v v2 l wr.drew (rd1.keep k0) (rd2.keep k0)
      obtain ⟨vo, vc, rfl, _, _⟩ := rd1
      obtain ⟨vo2, vc2, rfl, _, _⟩ := rd2
      obtain ⟨ll, hll⟩ : ∃ ll, ll = l.length := ⟨_, rfl⟩
      rw [← hll] at q5 hpC hqC
      clear hll
      have cR1 := fun V (hV : Below wr.heap.size wr V) => cell_keep hV r1
      have cR2 := fun V (hV : Below wr.heap.size wr V) => cell_keep hV r2
      have p0 : ∀ V, Below wr.heap.size wr V → V.cell? ⟨b1, i * 5, none⟩ = some (.int .i64 a0) := fun V hV => cell_keep hV (by have := hpC 0 (.int .i64 a0) rfl (by omega); simpa using this)
      have p1 : ∀ V, Below wr.heap.size wr V → V.cell? ⟨b1, i * 5 + 1, none⟩ = some (.int .i64 a1) := fun V hV => cell_keep hV (by have := hpC 1 (.int .i64 a1) rfl (by omega); simpa using this)
      have p2 : ∀ V, Below wr.heap.size wr V → V.cell? ⟨b1, i * 5 + 2, none⟩ = some (.int .i64 a2) := fun V hV => cell_keep hV (by have := hpC 2 (.int .i64 a2) rfl (by omega); simpa using this)
      have p3 : ∀ V, Below wr.heap.size wr V → V.cell? ⟨b1, i * 5 + 3, none⟩ = some (.int .i64 a3) := fun V hV => cell_keep hV (by have := hpC 3 (.int .i64 a3) rfl (by omega); simpa using this)
      have p4 : ∀ V, Below wr.heap.size wr V → V.cell? ⟨b1, i * 5 + 4, none⟩ = some (.slice vo ll vc) := fun V hV => cell_keep hV (by have := hpC 4 (.slice vo ll vc) rfl (by omega); simpa using this)
      have s0 : ∀ V, Below wr.heap.size wr V → V.cell? ⟨b2, i * 5, none⟩ = some (.int .i64 a0) := fun V hV => cell_keep hV (by have := hqC 0 (.int .i64 a0) rfl (by omega); simpa using this)
      have s1 : ∀ V, Below wr.heap.size wr V → V.cell? ⟨b2, i * 5 + 1, none⟩ = some (.int .i64 a1) := fun V hV => cell_keep hV (by have := hqC 1 (.int .i64 a1) rfl (by omega); simpa using this)
      have s2 : ∀ V, Below wr.heap.size wr V → V.cell? ⟨b2, i * 5 + 2, none⟩ = some (.int .i64 a2) := fun V hV => cell_keep hV (by have := hqC 2 (.int .i64 a2) rfl (by omega); simpa using this)
      have s3 : ∀ V, Below wr.heap.size wr V → V.cell? ⟨b2, i * 5 + 3, none⟩ = some (.int .i64 a3) := fun V hV => cell_keep hV (by have := hqC 3 (.int .i64 a3) rfl (by omega); simpa using this)
      have s4 : ∀ V, Below wr.heap.size wr V → V.cell? ⟨b2, i * 5 + 4, none⟩ = some (.slice vo2 ll vc2) := fun V hV => cell_keep hV (by have := hqC 4 (.slice vo2 ll vc2) rfl (by omega); simpa using this)
      have hii : (0 : Int) ≤ (i : Int) := by omega
      have hij : (i : Int) < (N : Int) := by omega
      have HN := Lib.hid hN
      have HB := Lib.hid hb
      clear hS o1 o2 f1 f2 hpC hqC ok hx hN hv1 hv2 ob1 ob2 hb
      go_wp2
      go_region_held3 (fun V => Below wr.heap.size wr V) (first | with_reducible exact k0 | with_reducible exact b5) (first | (go_at_call 49; refine q5.mono ?_; rintro e w5 ⟨rfl, b5'⟩; have b5 : Below wr.heap.size wr w5 := k0.trans (b5'.mono k0.size)))
      have hb5 := HB.out.trans (b5.mono HB.out.size)
      clear q5 b5' b5 k0 cR1 cR2 p0 s0 p1 s1 p2 s2 p3 s3 p4 s4 r1 r2
      go_wp2
      go_roundw
      case rel => exact ⟨i + 1, by omega, by go_num, hb5⟩
      case measure => simp [intOf]; omega
    · have hni : ¬ ((i : Int) < (N : Int)) := by omega
      have HBX := Lib.hid hb
      clear hS hv1 hv2
      clear hb
      go_wp2
      go_loopw [5] (fun iv wi => ∃ (i : Nat), i ≤ hs.length ∧ iv = .int .i64 i ∧ Below w.heap.size w wi)
        (fun iv _ => hs.length - (intOf iv).toNat)
      case atStart => exact ⟨0, Nat.zero_le _, rfl, HBX.out⟩
      case round =>
        obtain ⟨i, hi, rfl, hb⟩ := hrel
        have hS := H.out.keep hb
        have hl9 : hs.length ≤ n := hS.lh
        obtain ⟨u1, c1, hv1⟩ := owns_slice (hS.mem.own 2 (by omega))
        obtain ⟨u2, c2, hv2⟩ := owns_slice (hS.mem.own 3 (by omega))
        rw [hS.ok.n2] at hv1
        rw [hS.ok.n3] at hv2
        have r1 := hS.mem.row.cell (i := 3) rfl
        have r2 := hS.mem.row.cell (i := 4) rfl
        rw [hv1] at r1
        rw [hv2] at r2
        obtain ⟨N, hN⟩ : ∃ N, N = hs.length := ⟨_, rfl⟩
        rw [← hN] at r1 r2 hi hl9 ⊢
        by_cases hlt : i < N
        · have hlt' : i < hs.length := by rw [← hN]; exact hlt
          have o1 := hS.mem.own 2 (by omega)
          have o2 := hS.mem.own 3 (by omega)
          rw [hS.ok.n2, hS.ok.c2, hv1] at o1
          rw [hS.ok.n3, hS.ok.c3, hv2] at o2
          obtain ⟨x, hx⟩ : ∃ x, x = hs[i] := ⟨_, rfl⟩
          have f1 := flat_get (fun x => [x.v]) 1 (fun x => rfl) hs i
          have f2 := flat_get (fun x => [x.v2]) 1 (fun x => rfl) hs i
          obtain ⟨b1, e1, j1, ob1, j2⟩ := owns_cell o1 rfl (i := i * 1) (by have := f1 0 hlt' (by omega); rw [Nat.add_zero] at this; exact (List.getElem?_eq_some_iff.1 this).1)
          obtain ⟨b2, e2, j3, ob2, j4⟩ := owns_cell o2 rfl (i := i * 1) (by have := f2 0 hlt' (by omega); rw [Nat.add_zero] at this; exact (List.getElem?_eq_some_iff.1 this).1)
          clear j1 j2 j3 j4
          subst e1
          subst e2
          have hpC : ∀ j u, ((fun x => [x.v]) hs[i])[j]? = some u → j < 1 → wr.cell? ⟨b1, i * 1 + j, none⟩ = some u := fun j u hu hj => by
            have := o1.cells (g := b1) ob1 (i * 1 + j) u (by rw [← hu]; exact f1 j hlt' hj)
            rwa [Addr.add_lit, Nat.zero_add] at this
          have hqC : ∀ j u, ((fun x => [x.v2]) hs[i])[j]? = some u → j < 1 → wr.cell? ⟨b2, i * 1 + j, none⟩ = some u := fun j u hu hj => by
            have := o2.cells (g := b2) ob2 (i * 1 + j) u (by rw [← hu]; exact f2 j hlt' hj)
            rwa [Addr.add_lit, Nat.zero_add] at this
          rw [← hx] at hpC hqC
          have ok := hS.ok.okh x (by rw [hx]; exact List.getElem_mem hlt')
          obtain ⟨v, v2, l⟩ := x
          dsimp only at ok hpC hqC
          have k0 : Below wr.heap.size wr wr.drew := (Below.refl _ _).drew
          have rd1 : RdHint wr v l := ok.1.here
          have rd2 : RdHint wr v2 l := ok.2.here
          have q5 := sameHint_any v v2 l wr.drew (rd1.keep k0) (rd2.keep k0)
          obtain ⟨vo, vc, rfl, _, _⟩ := rd1
          obtain ⟨vo2, vc2, rfl, _, _⟩ := rd2
          obtain ⟨ll, hll⟩ : ∃ ll, ll = l.length := ⟨_, rfl⟩
          rw [← hll] at q5 hpC hqC
          clear hll
          have cR1 := fun V (hV : Below wr.heap.size wr V) => cell_keep hV r1
          have cR2 := fun V (hV : Below wr.heap.size wr V) => cell_keep hV r2
          have p0 : ∀ V, Below wr.heap.size wr V → V.cell? ⟨b1, i, none⟩ = some (.slice vo ll vc) := fun V hV => cell_keep hV (by have := hpC 0 (.slice vo ll vc) rfl (by omega); simpa using this)
          have s0 : ∀ V, Below wr.heap.size wr V → V.cell? ⟨b2, i, none⟩ = some (.slice vo2 ll vc2) := fun V hV => cell_keep hV (by have := hqC 0 (.slice vo2 ll vc2) rfl (by omega); simpa using this)
          have hii : (0 : Int) ≤ (i : Int) := by omega
          have hij : (i : Int) < (N : Int) := by omega
          have HN := Lib.hid hN
          have HB := Lib.hid hb
          clear hS o1 o2 f1 f2 hpC hqC ok hx hN hv1 hv2 ob1 ob2 hb
          go_wp2
          go_region_held3 (fun V => Below wr.heap.size wr V) (first | with_reducible exact k0 | with_reducible exact b5) (first | (go_at_call 50; refine q5.mono ?_; rintro e w5 ⟨rfl, b5'⟩; have b5 : Below wr.heap.size wr w5 := k0.trans (b5'.mono k0.size)))
          have hb5 := HB.out.trans (b5.mono HB.out.size)
          clear q5 b5' b5 k0 cR1 cR2 p0 s0 r1 r2
          go_wp2
          go_roundw
          case rel => exact ⟨i + 1, by omega, by go_num, hb5⟩
          case measure => simp [intOf]; omega
        · have hni : ¬ ((i : Int) < (N : Int)) := by omega
          have HBX := Lib.hid hb
          clear hS hv1 hv2
          clear hb
          go_wp2
          go_loopw [7] (fun iv wi => ∃ (i : Nat), i ≤ os.length ∧ iv = .int .i64 i ∧ Below w.heap.size w wi)
            (fun iv _ => os.length - (intOf iv).toNat)
          case atStart => exact ⟨0, Nat.zero_le _, rfl, HBX.out⟩
          case round =>
            obtain ⟨i, hi, rfl, hb⟩ := hrel
            have hS := H.out.keep hb
            have hl9 : os.length ≤ n := hS.lo
            obtain ⟨u1, c1, hv1⟩ := owns_slice (hS.mem.own 4 (by omega))
            obtain ⟨u2, c2, hv2⟩ := owns_slice (hS.mem.own 5 (by omega))
            rw [hS.ok.n4] at hv1
            rw [hS.ok.n5] at hv2
            have r1 := hS.mem.row.cell (i := 5) rfl
            have r2 := hS.mem.row.cell (i := 6) rfl
            rw [hv1] at r1
            rw [hv2] at r2
            obtain ⟨N, hN⟩ : ∃ N, N = os.length := ⟨_, rfl⟩
            rw [← hN] at r1 r2 hi hl9 ⊢
            by_cases hlt : i < N
            · have hlt' : i < os.length := by rw [← hN]; exact hlt
              have o1 := hS.mem.own 4 (by omega)
              have o2 := hS.mem.own 5 (by omega)
              rw [hS.ok.n4, hS.ok.c4, hv1] at o1
              rw [hS.ok.n5, hS.ok.c5, hv2] at o2
              obtain ⟨x, hx⟩ : ∃ x, x = os[i] := ⟨_, rfl⟩
              have f1 := flat_get (fun x => oC x x.m x.q) 4 (fun x => rfl) os i
              have f2 := flat_get (fun x => oC x x.m2 x.q2) 4 (fun x => rfl) os i
              obtain ⟨b1, e1, j1, ob1, j2⟩ := owns_cell o1 rfl (i := i * 4) (by have := f1 0 hlt' (by omega); rw [Nat.add_zero] at this; exact (List.getElem?_eq_some_iff.1 this).1)
              obtain ⟨b2, e2, j3, ob2, j4⟩ := owns_cell o2 rfl (i := i * 4) (by have := f2 0 hlt' (by omega); rw [Nat.add_zero] at this; exact (List.getElem?_eq_some_iff.1 this).1)
              clear j1 j2 j3 j4
              subst e1
              subst e2
              have hpC : ∀ j u, ((fun x => oC x x.m x.q) os[i])[j]? = some u → j < 4 → wr.cell? ⟨b1, i * 4 + j, none⟩ = some u := fun j u hu hj => by
                have := o1.cells (g := b1) ob1 (i * 4 + j) u (by rw [← hu]; exact f1 j hlt' hj)
                rwa [Addr.add_lit, Nat.zero_add] at this
              have hqC : ∀ j u, ((fun x => oC x x.m2 x.q2) os[i])[j]? = some u → j < 4 → wr.cell? ⟨b2, i * 4 + j, none⟩ = some u := fun j u hu hj => by
                have := o2.cells (g := b2) ob2 (i * 4 + j) u (by rw [← hu]; exact f2 j hlt' hj)
                rwa [Addr.add_lit, Nat.zero_add] at this
              rw [← hx] at hpC hqC
              have ok := hS.ok.oko x (by rw [hx]; exact List.getElem_mem hlt')
              obtain ⟨kk, rr, m, m2, q, q2, lm, lq⟩ := x
              dsimp only at ok hpC hqC
              have k0 : Below wr.heap.size wr wr.drew := (Below.refl _ _).drew
              have rd1 : RdWords wr m lm := ok.1.1.here
              have rd2 : RdWords wr m2 lm := ok.1.2.here
              have rd3 : RdWords wr q lq := ok.2.1.here
              have rd4 : RdWords wr q2 lq := ok.2.2.here
              have q5 := lSameOutcome_any kk rr m q m2 q2 lm lq wr.drew (rd1.keep k0) (rd3.keep k0) (rd2.keep k0) (rd4.keep k0)
              obtain ⟨vo, vc, rfl, _, _⟩ := rd1
              obtain ⟨vo2, vc2, rfl, _, _⟩ := rd2
              obtain ⟨vo3, vc3, rfl, _, _⟩ := rd3
              obtain ⟨vo4, vc4, rfl, _, _⟩ := rd4
              obtain ⟨l1, hl1⟩ : ∃ x, x = lm.length := ⟨_, rfl⟩
              obtain ⟨l2, hl2⟩ : ∃ x, x = lq.length := ⟨_, rfl⟩
              rw [← hl1, ← hl2] at q5 hpC hqC
              clear hl1 hl2
              have cR1 := fun V (hV : Below wr.heap.size wr V) => cell_keep hV r1
              have cR2 := fun V (hV : Below wr.heap.size wr V) => cell_keep hV r2
              have p0 : ∀ V, Below wr.heap.size wr V → V.cell? ⟨b1, i * 4, none⟩ = some (.int .i64 kk) := fun V hV => cell_keep hV (by have := hpC 0 (.int .i64 kk) rfl (by omega); simpa using this)
              have p1 : ∀ V, Below wr.heap.size wr V → V.cell? ⟨b1, i * 4 + 1, none⟩ = some (.int .i64 rr) := fun V hV => cell_keep hV (by have := hpC 1 (.int .i64 rr) rfl (by omega); simpa using this)
              have p2 : ∀ V, Below wr.heap.size wr V → V.cell? ⟨b1, i * 4 + 2, none⟩ = some (.slice vo l1 vc) := fun V hV => cell_keep hV (by have := hpC 2 (.slice vo l1 vc) rfl (by omega); simpa using this)
              have p3 : ∀ V, Below wr.heap.size wr V → V.cell? ⟨b1, i * 4 + 3, none⟩ = some (.slice vo3 l2 vc3) := fun V hV => cell_keep hV (by have := hpC 3 (.slice vo3 l2 vc3) rfl (by omega); simpa using this)
              have s0 : ∀ V, Below wr.heap.size wr V → V.cell? ⟨b2, i * 4, none⟩ = some (.int .i64 kk) := fun V hV => cell_keep hV (by have := hqC 0 (.int .i64 kk) rfl (by omega); simpa using this)
              have s1 : ∀ V, Below wr.heap.size wr V → V.cell? ⟨b2, i * 4 + 1, none⟩ = some (.int .i64 rr) := fun V hV => cell_keep hV (by have := hqC 1 (.int .i64 rr) rfl (by omega); simpa using this)
              have s2 : ∀ V, Below wr.heap.size wr V → V.cell? ⟨b2, i * 4 + 2, none⟩ = some (.slice vo2 l1 vc2) := fun V hV => cell_keep hV (by have := hqC 2 (.slice vo2 l1 vc2) rfl (by omega); simpa using this)
              have s3 : ∀ V, Below wr.heap.size wr V → V.cell? ⟨b2, i * 4 + 3, none⟩ = some (.slice vo4 l2 vc4) := fun V hV => cell_keep hV (by have := hqC 3 (.slice vo4 l2 vc4) rfl (by omega); simpa using this)
              have hii : (0 : Int) ≤ (i : Int) := by omega
              have hij : (i : Int) < (N : Int) := by omega
              have HN := Lib.hid hN
              have HB := Lib.hid hb
              clear hS o1 o2 f1 f2 hpC hqC ok hx hN hv1 hv2 ob1 ob2 hb
              go_wp2
              go_region_held3 (fun V => Below wr.heap.size wr V) (first | with_reducible exact k0 | with_reducible exact b5) (first | (go_at_call 51; refine q5.mono ?_; rintro e w5 ⟨rfl, b5'⟩; have b5 : Below wr.heap.size wr w5 := k0.trans (b5'.mono k0.size)))
              have hb5 := HB.out.trans (b5.mono HB.out.size)
              clear q5 b5' b5 k0 cR1 cR2 p0 s0 p1 s1 p2 s2 p3 s3 r1 r2
              go_wp2
              go_roundw
              case rel => exact ⟨i + 1, by omega, by go_num, hb5⟩
              case measure => simp [intOf]; omega
            · have hni : ¬ ((i : Int) < (N : Int)) := by omega
              have HBX := Lib.hid hb
              clear hS hv1 hv2
              clear hb
              go_wp2
              go_loopw [9] (fun iv wi => ∃ (i : Nat), i ≤ ms.length ∧ iv = .int .i64 i ∧ Below w.heap.size w wi)
                (fun iv _ => ms.length - (intOf iv).toNat)
              case atStart => exact ⟨0, Nat.zero_le _, rfl, HBX.out⟩
              case round =>
                obtain ⟨i, hi, rfl, hb⟩ := hrel
                have hS := H.out.keep hb
                have hl9 : ms.length ≤ n := hS.lm
                obtain ⟨u1, c1, hv1⟩ := owns_slice (hS.mem.own 6 (by omega))
                obtain ⟨u2, c2, hv2⟩ := owns_slice (hS.mem.own 7 (by omega))
                rw [hS.ok.n6] at hv1
                rw [hS.ok.n7] at hv2
                have r1 := hS.mem.row.cell (i := 7) rfl
                have r2 := hS.mem.row.cell (i := 8) rfl
                rw [hv1] at r1
                rw [hv2] at r2
                obtain ⟨N, hN⟩ : ∃ N, N = ms.length := ⟨_, rfl⟩
                rw [← hN] at r1 r2 hi hl9 ⊢
                by_cases hlt : i < N
                · have hlt' : i < ms.length := by rw [← hN]; exact hlt
                  have o1 := hS.mem.own 6 (by omega)
                  have o2 := hS.mem.own 7 (by omega)
                  rw [hS.ok.n6, hS.ok.c6, hv1] at o1
                  rw [hS.ok.n7, hS.ok.c7, hv2] at o2
                  obtain ⟨x, hx⟩ : ∃ x, x = ms[i] := ⟨_, rfl⟩
                  have f1 := flat_get (fun x => [x.v]) 1 (fun x => rfl) ms i
                  have f2 := flat_get (fun x => [x.v2]) 1 (fun x => rfl) ms i
                  obtain ⟨b1, e1, j1, ob1, j2⟩ := owns_cell o1 rfl (i := i * 1) (by have := f1 0 hlt' (by omega); rw [Nat.add_zero] at this; exact (List.getElem?_eq_some_iff.1 this).1)
                  obtain ⟨b2, e2, j3, ob2, j4⟩ := owns_cell o2 rfl (i := i * 1) (by have := f2 0 hlt' (by omega); rw [Nat.add_zero] at this; exact (List.getElem?_eq_some_iff.1 this).1)
                  clear j1 j2 j3 j4
                  subst e1
                  subst e2
                  have hpC : ∀ j u, ((fun x => [x.v]) ms[i])[j]? = some u → j < 1 → wr.cell? ⟨b1, i * 1 + j, none⟩ = some u := fun j u hu hj => by
                    have := o1.cells (g := b1) ob1 (i * 1 + j) u (by rw [← hu]; exact f1 j hlt' hj)
                    rwa [Addr.add_lit, Nat.zero_add] at this
                  have hqC : ∀ j u, ((fun x => [x.v2]) ms[i])[j]? = some u → j < 1 → wr.cell? ⟨b2, i * 1 + j, none⟩ = some u := fun j u hu hj => by
                    have := o2.cells (g := b2) ob2 (i * 1 + j) u (by rw [← hu]; exact f2 j hlt' hj)
                    rwa [Addr.add_lit, Nat.zero_add] at this
                  rw [← hx] at hpC hqC
                  have ok := hS.ok.okm x (by rw [hx]; exact List.getElem_mem hlt')
                  obtain ⟨v, v2, l⟩ := x
                  dsimp only at ok hpC hqC
                  have k0 : Below wr.heap.size wr wr.drew := (Below.refl _ _).drew
                  have rd1 : RdTexts wr v l := ok.1.here
                  have rd2 : RdTexts wr v2 l := ok.2.here
                  have q5 := aTexts_any v v2 l wr.drew (rd1.keep k0) (rd2.keep k0)
                  obtain ⟨vo, vc, rfl, _, _⟩ := rd1
                  obtain ⟨vo2, vc2, rfl, _, _⟩ := rd2
                  obtain ⟨ll, hll⟩ : ∃ ll, ll = l.length := ⟨_, rfl⟩
                  rw [← hll] at q5 hpC hqC
                  clear hll
                  have cR1 := fun V (hV : Below wr.heap.size wr V) => cell_keep hV r1
                  have cR2 := fun V (hV : Below wr.heap.size wr V) => cell_keep hV r2
                  have p0 : ∀ V, Below wr.heap.size wr V → V.cell? ⟨b1, i, none⟩ = some (.slice vo ll vc) := fun V hV => cell_keep hV (by have := hpC 0 (.slice vo ll vc) rfl (by omega); simpa using this)
                  have s0 : ∀ V, Below wr.heap.size wr V → V.cell? ⟨b2, i, none⟩ = some (.slice vo2 ll vc2) := fun V hV => cell_keep hV (by have := hqC 0 (.slice vo2 ll vc2) rfl (by omega); simpa using this)
                  have hii : (0 : Int) ≤ (i : Int) := by omega
                  have hij : (i : Int) < (N : Int) := by omega
                  have HN := Lib.hid hN
                  have HB := Lib.hid hb
                  clear hS o1 o2 f1 f2 hpC hqC ok hx hN hv1 hv2 ob1 ob2 hb
                  go_wp2
                  go_region_held3 (fun V => Below wr.heap.size wr V) (first | with_reducible exact k0 | with_reducible exact b5) (first | (go_at_call 52; refine q5.mono ?_; rintro e w5 ⟨rfl, b5'⟩; have b5 : Below wr.heap.size wr w5 := k0.trans (b5'.mono k0.size)))
                  have hb5 := HB.out.trans (b5.mono HB.out.size)
                  clear q5 b5' b5 k0 cR1 cR2 p0 s0 r1 r2
                  go_wp2
                  go_roundw
                  case rel => exact ⟨i + 1, by omega, by go_num, hb5⟩
                  case measure => simp [intOf]; omega
                · have hni : ¬ ((i : Int) < (N : Int)) := by omega
                  have HBX := Lib.hid hb
                  clear hS hv1 hv2
                  clear hb
                  have HF := Lib.hid (HP.out wr HBX.out)
                  clear HP HBX
                  go_wp2
                  first | exact HF.out | (go_ret; exact HF.out)

end Go.Proofs.YtblhmeidbjigaabGreatDoor

/- twinlaw.All: every step, and behind each of them the looks. -/
set_option linter.unusedSimpArgs false
set_option linter.unusedVariables false
namespace Go.Proofs.YtblhmeidbjigaabGreatDoor
open Go.RowKit Go.Deep

theorem step_cps (w0 w : World) (n : Nat) (o : StepD) (val : Nat → Value) (cnt : Nat → Nat) (cel : Nat → List Value) (ps : List PI) (hs : List HI) (os : List OI) (ms : List MI) (h : ASt w0 w n val cnt cel ps hs os ms) (hok : OkStep w0 o) (hn9 : n ≤ 628292358710) (htab : TabW w0) (Post : Ending → World → Prop)
    (hp : ∀ w' val' cnt' cel' ps' hs' os' ms', ASt w0 w' (n + 1) val' cnt' cel' ps' hs' os' ms' → Post (.returned (.bool true)) w') :
    Calls Tryz.prog 28 #[.pointer (some ⟨w0.heap.size, 0, none⟩), .agg (stepC o).toArray] w Post := by
  by_cases hr : 1 ≤ o.kind ∧ o.kind ≤ 8
  · have hc : o.kind = 1 ∨ o.kind = 2 ∨ o.kind = 3 ∨ o.kind = 4 ∨ o.kind = 5 ∨ o.kind = 6 ∨ o.kind = 7 ∨ o.kind = 8 := by omega
    rcases hc with hk | hk | hk | hk | hk | hk | hk | hk
    · exact step_1 w0 w n o val cnt cel ps hs os ms h hok hn9 htab Post hk hp
    · exact step_2 w0 w n o val cnt cel ps hs os ms h hok hn9 htab Post hk hp
    · exact step_3 w0 w n o val cnt cel ps hs os ms h hok hn9 htab Post hk hp
    · exact step_4 w0 w n o val cnt cel ps hs os ms h hok hn9 htab Post hk hp
    · exact step_5 w0 w n o val cnt cel ps hs os ms h hok hn9 htab Post hk hp
    · exact step_6 w0 w n o val cnt cel ps hs os ms h hok hn9 htab Post hk hp
    · exact step_7 w0 w n o val cnt cel ps hs os ms h hok hn9 htab Post hk hp
    · exact step_8 w0 w n o val cnt cel ps hs os ms h hok hn9 htab Post hk hp
  · exact step_0 w0 w n o val cnt cel ps hs os ms h hok hn9 htab Post hr hp

theorem ast_start (w0 : World) : ∃ val cnt cel, ASt w0 (w0.alloc (.cells #[.int .i64 0, .slice none 0 0, .slice none 0 0, .slice none 0 0, .slice none 0 0, .slice none 0 0, .slice none 0 0, .slice none 0 0, .slice none 0 0] 80)) 0 val cnt cel [] [] [] [] := by
  refine ⟨fun _ => .slice none 0 0, fun _ => 0, fun _ => [], ⟨heap_alloc_new w0 _, fun k hk => World.ownsRow_nil _ _ _ _, fun j k _ _ _ g hg => by simp [Value.ownBlock] at hg⟩, ⟨rfl, rfl, rfl, rfl, rfl, rfl, rfl, rfl, rfl, rfl, rfl, rfl, rfl, rfl, rfl, rfl, fun x hx => (by cases hx), fun x hx => (by cases hx), fun x hx => (by cases hx), fun x hx => (by cases hx)⟩, by simp, by simp, by simp, by simp, (Below.refl _ _).alloc (Nat.le_refl _) _⟩

set_option maxRecDepth 100000 in
set_option maxHeartbeats 2000000 in
theorem all_cps (v : Value) (l : List StepD) (w : World) (hr : RdSteps w v l) (htab : TabW w) (Post : Ending → World → Prop)
    (hp : ∀ w', Below w.heap.size w w' → Post (.returned (.bool true)) w') :
    Calls Tryz.prog 9 #[v] w Post := by
  obtain ⟨so, sc, rfl, hll, hc⟩ := hr
  obtain ⟨N, hN⟩ : ∃ N, N = l.length := ⟨_, rfl⟩
  rw [← hN] at hc hll ⊢
  obtain ⟨W, hW⟩ : ∃ W, W = w.alloc (.cells #[.int .i64 0, .slice none 0 0, .slice none 0 0, .slice none 0 0, .slice none 0 0, .slice none 0 0, .slice none 0 0, .slice none 0 0, .slice none 0 0] 80) := ⟨_, rfl⟩
  have hA : Hid (∃ val cnt cel ps hs os ms, ASt w W 0 val cnt cel ps hs os ms) := by
    obtain ⟨val, cnt, cel, h⟩ := ast_start w
    rw [← hW] at h
    exact ⟨val, cnt, cel, [], [], [], [], h⟩
  have HP := Lib.hid hp
  have HW := Lib.hid hW
  have HTB := Lib.hid htab
  have HC := Lib.hid hc
  clear hp hW htab hN hc
  go_enter Tryz.func9, Tryz.ntmps9
  go_wp2
  rw [← HW.out]
  clear HW
  go_loopw [4] (fun iv wi => ∃ (i : Nat), i ≤ N ∧ iv = .int .i64 i ∧ Hid (∃ val cnt cel ps hs os ms, ASt w wi i val cnt cel ps hs os ms))
    (fun iv _ => N - (intOf iv).toNat)
  case atStart => exact ⟨0, Nat.zero_le _, rfl, hA⟩
  case round =>
    clear hA
    obtain ⟨i, hi, rfl, hS⟩ := hrel
    by_cases hlt : i < N
    · obtain ⟨val, cnt, cel, ps, hs, os, ms, S⟩ := hS.out
      obtain ⟨b, off, rfl, hcell, hok⟩ := HC.out i hlt
      obtain ⟨o, ho⟩ : ∃ o, o = l.getD i stepZ := ⟨_, rfl⟩
      rw [← ho] at hcell hok
      have q1 := fun P' => step_cps w wr i o val cnt cel ps hs os ms S hok (by omega) HTB.out P'
      have hcw : ∀ j u, (stepC o)[j]? = some u → wr.cell? ⟨b, off + i * 15 + j, none⟩ = some u := fun j u hu => cell_keep S.below (hcell j u hu)
      obtain ⟨kd, s, t, hh, a0, a1, a2, a3, pv, bl, hv, hl, av, mv, sv, la, lm, ls, a, bb⟩ := o
      have z0 := hcw 0 _ rfl
      have z1 := hcw 1 _ rfl
      have z2 := hcw 2 _ rfl
      have z3 := hcw 3 _ rfl
      have z4 := hcw 4 _ rfl
      have z5 := hcw 5 _ rfl
      have z6 := hcw 6 _ rfl
      have z7 := hcw 7 _ rfl
      have z8 := hcw 8 _ rfl
      have z9 := hcw 9 _ rfl
      have z10 := hcw 10 _ rfl
      have z11 := hcw 11 _ rfl
      have z12 := hcw 12 _ rfl
      have z13 := hcw 13 _ rfl
      have z14 := hcw 14 _ rfl
      dsimp only at z0 z1 z2 z3 z4 z5 z6 z7 z8 z9 z10 z11 z12 z13 z14
      rw [Nat.add_zero] at z0
      have hii : (0 : Int) ≤ (i : Int) := by omega
      have hij : (i : Int) < (N : Int) := by omega
      simp only [stepC] at q1
      clear hcell hok hcw S ho hS
      go_wp2_with fail
      refine q1 _ ?_
      intro w2 val2 cnt2 cel2 ps2 hs2 os2 ms2 S2
      have q2 := fun P' => looks_cps w w2 (i + 1) val2 cnt2 cel2 ps2 hs2 os2 ms2 S2 (by omega) P'
      have H2 := Lib.hid S2
      clear q1 S2 z0 z1 z2 z3 z4 z5 z6 z7 z8 z9 z10 z11 z12 z13 z14
      go_wp2_with fail
      refine q2 _ ?_
      intro w3 hb3
      have S3 : Hid (∃ val cnt cel ps hs os ms, ASt w w3 (i + 1) val cnt cel ps hs os ms) := ⟨_, _, _, _, _, _, _, H2.out.keep hb3⟩
      clear q2 H2 hb3
      go_wp2
      go_roundw
      case rel => exact ⟨i + 1, by omega, by go_num, S3⟩
      case measure => simp [intOf]; omega
    · obtain ⟨val, cnt, cel, ps, hs, os, ms, S⟩ := hS.out
      have HF := Lib.hid (HP.out wr S.below)
      have hni : ¬ ((i : Int) < (N : Int)) := by omega
      clear S hS HP HC
      go_wp2
      first | exact HF.out | (go_ret; exact HF.out)

end Go.Proofs.YtblhmeidbjigaabGreatDoor
