/- The code's state: isBig, load. -/
import Derived.Test.YtblhmeidbjigaabGreatDoorRows
import Derived.WalkKit
import Derived.WalkSpells
import Derived.WalkLawsBesides
import Derived.Laws.BytesArg
import Derived.Deep.QuietTactic
import Derived.BigQuiet
import Derived.Deep.RegionHeld3
import Derived.Lib.ItoaNum
import Derived.Lib.ItoaLen
import Derived.OpenShut
import Derived.Maps.AppendAt
import Derived.Shelf.Strconv.Itoa3
import Derived.Shelf.Lay
import Derived.Ground.NamesProg
import Derived.Lib.SmallJoins
import Derived.Lib.Hide
import Derived.StillTailTactics
import Derived.Test.YtblhmeidbjigaabGreatDoorCTmLToCCpBAll

set_option linter.unusedSimpArgs false
set_option linter.unusedVariables false
namespace Go.Proofs.YtblhmeidbjigaabGreatDoor
open Go.RowKit

set_option maxRecDepth 100000 in
set_option maxHeartbeats 1000000 in
theorem cIsBig_any (t : TD) (ps : Value) (w : World) :
    Calls Tryz.prog 211 #[termV t ps] w fun e w' => e = .returned (.bool (decide (4095 < (t.size : Int)))) ∧ Below w.heap.size w w' := by
  have b0 : Below w.heap.size w (w.alloc (.cells #[.int .i64 (ckind t), .int .i64 (cval t), ps, .int .i64 (t).size, .string (str (showT t))] 179)) := (Below.refl _ _).alloc (Nat.le_refl _) _
  have q := cSize_any (ckind t) (cval t) t.size ps (str (showT t)) (w.alloc (.cells #[.int .i64 (ckind t), .int .i64 (cval t), ps, .int .i64 (t).size, .string (str (showT t))] 179))
  have HB := Lib.hid b0
  unfold termV
  generalize (t.size : Int) = z at *
  clear b0
  go_enter Tryz.func211, Tryz.ntmps211
  go_wp2_with fail
  refine q.mono ?_
  rintro e w1 ⟨rfl, b1⟩
  have HB1 := Lib.hid (HB.out.trans (b1.mono HB.out.size))
  clear q HB b1
  by_cases hz : 4095 < z
  · have hd := Lib.hid (show decide (4095 < z) = true by simp [hz])
    go_wp2
    go_ret
    exact ⟨by rw [hd.out]; rfl, HB1.out⟩
  · have hd := Lib.hid (show decide (4095 < z) = false by simp [hz])
    go_wp2
    go_ret
    exact ⟨by rw [hd.out]; rfl, HB1.out⟩

theorem StU.plc {B Lo : Nat} {w : World} {M P cap n : Nat} {f : Nat → TD} {ps : Nat → Value} {c : TD} {pc : Value} {ms : List (List UInt8)} {mv : Value} {big : Bool} {regs data : Int} (h : StU B Lo w M P cap n f ps c pc ms mv big regs data)
    {i : Nat} (hi : i < n) {u : TD} (hu : f i = u) {p : Value} (hp : ps i = p) : ∀ j v, (tcells u p)[j]? = some v → w.cell? ⟨P, i * 5 + j, none⟩ = some v := fun j v hj => h.b.pl.cell hi (by rw [hu, hp]; exact hj)

set_option maxRecDepth 100000 in
set_option maxHeartbeats 4000000 in
theorem cLoad_cps {B Lo : Nat} {w : World} {M P cap n : Nat} {f : Nat → TD} {c : TD} {ms : List (List UInt8)} {regs data : Int} (h : StAt B Lo w M P cap n f c ms false regs data) (k oc : Int) (a b : Nat) (ha : a < n) (hb : b < n) (hn : n ≤ 1000) (fu : (f b).fine) (su : (f b).size ≤ 10000000) (fc : c.fine) (sc : c.size ≤ 10000000) (hl : ms.length ≤ 1000) (Post : Ending → World → Prop)
    (hp : ∀ w', StAt B Lo w' M P cap n (upT f a (readT c (f b))) c (laidMark ms (cellText data (f b))) (decide (4095 < ((readT c (f b)).size : Int))) regs data → Mv B Lo w w' → Post (.returned (.tuple #[])) w') :
    Calls Tryz.prog 200 #[.pointer (some ⟨M, 0, none⟩), .agg #[.int .i64 k, .int .i64 a, .int .i64 b, .int .i64 oc]] w Post := by
  obtain ⟨ps, pc, mv, U⟩ := h
  obtain ⟨uo, un, uc, hpu⟩ := (U.b.parts b hb).slice
  have pu := U.b.parts b hb
  rw [hpu] at pu
  have hle := U.le
  have hlo : Lo ≤ w.heap.size := U.b.pc.lo
  have b0 : Below w.heap.size w (w.alloc (.cells #[.int .i64 k, .int .i64 a, .int .i64 b, .int .i64 oc] 36)) := (Below.refl _ _).alloc (Nat.le_refl _) _
  have o0 : Row (w.alloc (.cells #[.int .i64 k, .int .i64 a, .int .i64 b, .int .i64 oc] 36)) w.heap.size 36 [.int .i64 k, .int .i64 a, .int .i64 b, .int .i64 oc] := heap_alloc_new w _
  have U0 := U.next b0
  obtain ⟨W, hW⟩ : ∃ W, W = w.alloc (.cells #[.int .i64 k, .int .i64 a, .int .i64 b, .int .i64 oc] 36) := ⟨_, rfl⟩
  rw [← hW] at b0 o0 U0
  obtain ⟨u, hu⟩ : ∃ u, f b = u := ⟨_, rfl⟩
  have plW := U0.plc hb hu hpu
  rw [hu] at fu su hp pu
  have hzW : w.heap.size < W.heap.size := by rw [hW]; simp
  have m0 : ∀ V, Below W.heap.size W V → V.cell? ⟨M, 0, none⟩ = some (.slice (some ⟨P, 0, none⟩) n cap) := fun V hv => cell_keep hv (U0.row.cell (i := 0) rfl)
  have x0 : ∀ V, Below W.heap.size W V → V.cell? ⟨w.heap.size, 2, none⟩ = some (.int .i64 b) := fun V hv => cell_keep hv (o0.cell (i := 2) rfl)
  have p0 : ∀ V, Below W.heap.size W V → V.cell? ⟨P, b * 5, none⟩ = some (.int .i64 (ckind u)) := fun V hv => cell_keep hv (plW 0 _ rfl)
  have p1 : ∀ V, Below W.heap.size W V → V.cell? ⟨P, b * 5 + 1, none⟩ = some (.int .i64 (cval u)) := fun V hv => cell_keep hv (plW 1 _ rfl)
  have p2 : ∀ V, Below W.heap.size W V → V.cell? ⟨P, b * 5 + 2, none⟩ = some (.slice uo un uc) := fun V hv => cell_keep hv (plW 2 _ rfl)
  have p3 : ∀ V, Below W.heap.size W V → V.cell? ⟨P, b * 5 + 3, none⟩ = some (.int .i64 (u).size) := fun V hv => cell_keep hv (plW 3 _ rfl)
  have p4 : ∀ V, Below W.heap.size W V → V.cell? ⟨P, b * 5 + 4, none⟩ = some (.string (str (showT u))) := fun V hv => cell_keep hv (plW 4 _ rfl)
  have hbi : (0 : Int) ≤ (b : Int) := by omega
  have hbj : (b : Int) < (n : Int) := by omega
  have hai : (0 : Int) ≤ (a : Int) := by omega
  have haj : (a : Int) < (n : Int) := by omega
  have k0 : Below W.heap.size W W.drew := (Below.refl _ _).drew
  have k1 : Below W.heap.size W (W.drew.alloc (.cells #[.int .i64 0, .int .i64 0, .slice none 0 0, .int .i64 0, .string ⟨#[]⟩] 179)) := k0.alloc (Nat.le_refl _) _
  have k2 : Below W.heap.size W (W.drew.alloc (.cells #[.int .i64 (ckind u), .int .i64 (cval u), (.slice uo un uc), .int .i64 (u).size, .string (str (showT u))] 179)) := k0.alloc (Nat.le_refl _) _
  have u1 : Row (W.drew.alloc (.cells #[.int .i64 (ckind u), .int .i64 (cval u), (.slice uo un uc), .int .i64 (u).size, .string (str (showT u))] 179)) W.heap.size 179 (tcells u (.slice uo un uc)) := heap_alloc_new W.drew _
  have U1 := U0.next k2
  have o1 := o0.keep k2
  have HM1 : Hid (Mv B Lo w (W.drew.alloc (.cells #[.int .i64 (ckind u), .int .i64 (cval u), (.slice uo un uc), .int .i64 (u).size, .string (str (showT u))] 179))) := Mv.of (b0.trans (k2.mono b0.size)) hle
  have HPU := Lib.hid (pu.keep (b0.trans (k2.mono b0.size)))
  have HU1 := Lib.hid U1
  have HO1 := Lib.hid o1
  have HR1 := Lib.hid u1
  have HP := Lib.hid hp
  have HH := Lib.hid hu
  have q1 := fun P' => cMarkCell_cps U1.at u (.slice uo un uc) fu (by omega) hl P'
  unfold termV at q1
  clear hp hu plW U U0 U1 o0 o1 pu hpu b0
  go_enter Tryz.func200, Tryz.ntmps200
  go_wp2
  rw [← hW]
  clear hW
  go_region_held3 (fun w' => Below W.heap.size W w') (first | with_reducible exact k0 | with_reducible exact k1 | with_reducible exact k2 | exact k1 | exact k2) (fail)
  clear m0 x0 p0 p1 p2 p3 p4 k0 k1 k2
  have a0 := (u1).cell (i := 0) rfl
  have a1 := (u1).cell (i := 1) rfl
  have a2 := (u1).cell (i := 2) rfl
  have a3 := (u1).cell (i := 3) rfl
  have a4 := (u1).cell (i := 4) rfl
  clear u1
  go_wp2_with fail
  refine q1 _ ?_
  intro w2 h2 m2
  obtain ⟨ps2, pc2, mv2, U2⟩ := h2
  obtain ⟨co, cn, cc, rfl⟩ := U2.b.pc.slice
  have hl2 : Lo ≤ W.heap.size := by omega
  have u2 := m2.row _ _ _ hl2 (by decide) HR1.out
  have o2 := m2.row _ _ _ hlo (by decide) HO1.out
  have HM2 : Hid (Mv B Lo w w2) := HM1.out.trans m2
  have pu2 := HPU.out.mv m2
  clear q1 HR1 HO1 HM1 HPU HU1 m2 a0 a1 a2 a3 a4
  have pc2 := U2.b.pc
  have c0 : ∀ V, Below w2.heap.size w2 V → V.cell? ⟨M, 1, none⟩ = some _ := fun V hv => cell_keep hv (U2.row.cell (i := 1) rfl)
  have c1 : ∀ V, Below w2.heap.size w2 V → V.cell? ⟨M, 2, none⟩ = some _ := fun V hv => cell_keep hv (U2.row.cell (i := 2) rfl)
  have c2 : ∀ V, Below w2.heap.size w2 V → V.cell? ⟨M, 3, none⟩ = some _ := fun V hv => cell_keep hv (U2.row.cell (i := 3) rfl)
  have c3 : ∀ V, Below w2.heap.size w2 V → V.cell? ⟨M, 4, none⟩ = some _ := fun V hv => cell_keep hv (U2.row.cell (i := 4) rfl)
  have c4 : ∀ V, Below w2.heap.size w2 V → V.cell? ⟨M, 5, none⟩ = some _ := fun V hv => cell_keep hv (U2.row.cell (i := 5) rfl)
  have a0 : ∀ V, Below w2.heap.size w2 V → V.cell? ⟨W.heap.size, 0, none⟩ = some _ := fun V hv => cell_keep hv (u2.cell (i := 0) rfl)
  have a1 : ∀ V, Below w2.heap.size w2 V → V.cell? ⟨W.heap.size, 1, none⟩ = some _ := fun V hv => cell_keep hv (u2.cell (i := 1) rfl)
  have a2 : ∀ V, Below w2.heap.size w2 V → V.cell? ⟨W.heap.size, 2, none⟩ = some _ := fun V hv => cell_keep hv (u2.cell (i := 2) rfl)
  have a3 : ∀ V, Below w2.heap.size w2 V → V.cell? ⟨W.heap.size, 3, none⟩ = some _ := fun V hv => cell_keep hv (u2.cell (i := 3) rfl)
  have a4 : ∀ V, Below w2.heap.size w2 V → V.cell? ⟨W.heap.size, 4, none⟩ = some _ := fun V hv => cell_keep hv (u2.cell (i := 4) rfl)
  have qr : ∀ V P', Below w2.heap.size w2 V → (∀ pt w', PartsAt Lo w' (readT c u) pt → Below V.heap.size V w' → P' (.returned (termV (readT c u) pt)) w') → Calls Tryz.prog 210 #[termV c (.slice co cn cc), termV u (.slice uo un uc)] V P' := fun V P' hv hP =>
    cRead_cps c u (.slice co cn cc) (.slice uo un uc) V P' (pc2.keep hv) (pu2.keep hv) fc fu (by omega) (by omega) hP
  unfold termV at qr
  have k0 : Below w2.heap.size w2 w2.drew := (Below.refl _ _).drew
  have kB : Below w2.heap.size w2 (w2.alloc (.cells #[.int .i64 0, .int .i64 0, .slice none 0 0, .int .i64 0, .string ⟨#[]⟩] 179)).drew := ((Below.refl _ _).alloc (Nat.le_refl _) _).drew
  have kC : Below w2.heap.size w2 (w2.alloc (.cells #[.int .i64 0, .int .i64 0, .slice none 0 0, .int .i64 0, .string ⟨#[]⟩] 179)) := (Below.refl _ _).alloc (Nat.le_refl _) _
  have rB : Row (w2.alloc (.cells #[.int .i64 0, .int .i64 0, .slice none 0 0, .int .i64 0, .string ⟨#[]⟩] 179)).drew w2.heap.size 179 zT := heap_alloc_new w2 _
  have HU2 := Lib.hid U2
  have HO2 := Lib.hid o2
  have HRB := Lib.hid rB
  clear U2 pc2 pu2 o2 u2 rB
  go_wp2
  go_region_held3 (fun w' => Below w2.heap.size w2 w') (first | with_reducible exact k0 | with_reducible exact kB | with_reducible exact kC | with_reducible exact b3 | with_reducible exact k1 | with_reducible exact k2) (first | (go_at_call 210; with_reducible refine qr _ _ ?_ ?_; with_reducible exact k0; intro pt w3 p3 b3'; obtain ⟨ro, rn, rc, rfl⟩ := p3.slice; have b3 : Below w2.heap.size w2 w3 := k0.trans (b3'.mono k0.size); have k1 : Below w2.heap.size w2 (w3.alloc (.cells #[.int .i64 0, .int .i64 0, .slice none 0 0, .int .i64 0, .string ⟨#[]⟩] 179)) := b3.alloc b3.size _; have k2 : Below w2.heap.size w2 (w3.alloc (.cells #[.int .i64 (ckind (readT c u)), .int .i64 (cval (readT c u)), (.slice ro rn rc), .int .i64 ((readT c u)).size, .string (str (showT (readT c u)))] 179)) := b3.alloc b3.size _) | (go_at_call 210; with_reducible refine qr _ _ ?_ ?_; with_reducible exact kB; intro pt w3 p3 b3'; obtain ⟨ro, rn, rc, rfl⟩ := p3.slice; have b3 : Below w2.heap.size w2 w3 := kB.trans (b3'.mono kB.size); have rz := HRB.out.keep b3'; have z0 := rz.cell (i := 0) rfl; have z1 := rz.cell (i := 1) rfl; have z2 := rz.cell (i := 2) rfl; have z3 := rz.cell (i := 3) rfl; have z4 := rz.cell (i := 4) rfl; have f0 := rz.frozen 0; have f1 := rz.frozen 1; have f2 := rz.frozen 2; have f3 := rz.frozen 3; have f4 := rz.frozen 4; have k1 : Below w2.heap.size w2 (set5 w3 w2.heap.size (.int .i64 (ckind (readT c u))) (.int .i64 (cval (readT c u))) (.slice ro rn rc) (.int .i64 ((readT c u)).size) (.string (str (showT (readT c u))))) := set5_below b3 (Nat.le_refl _) _ _ _ _ _; have k2 := k1; unfold set5 at k1))
  all_goals
    first
    | (obtain ⟨X, hX⟩ : ∃ X, X = w3.alloc (.cells #[.int .i64 (ckind (readT c u)), .int .i64 (cval (readT c u)), (.slice ro rn rc), .int .i64 ((readT c u)).size, .string (str (showT (readT c u)))] 179) := ⟨_, rfl⟩
       rw [← hX]
       have U3 := HU2.out.next k2
       have o3 := HO2.out.keep k2
       have r3 : Row (w3.alloc (.cells #[.int .i64 (ckind (readT c u)), .int .i64 (cval (readT c u)), (.slice ro rn rc), .int .i64 ((readT c u)).size, .string (str (showT (readT c u)))] 179)) w3.heap.size 179 (tcells (readT c u) (.slice ro rn rc)) := heap_alloc_new w3 _
       have p3' := p3.keep ((Below.refl w3.heap.size w3).alloc (Nat.le_refl _) (.cells #[.int .i64 (ckind (readT c u)), .int .i64 (cval (readT c u)), (.slice ro rn rc), .int .i64 ((readT c u)).size, .string (str (showT (readT c u)))] 179))
       have HM3 : Hid (Mv B Lo w (w3.alloc (.cells #[.int .i64 (ckind (readT c u)), .int .i64 (cval (readT c u)), (.slice ro rn rc), .int .i64 ((readT c u)).size, .string (str (showT (readT c u)))] 179))) := HM2.out.trans (Mv.of k2 HU2.out.le)
       have hl3 : Lo ≤ w3.heap.size := Nat.le_trans (by have := HM2.out.size; omega) b3.size
       rw [← hX] at U3 o3 r3 p3' HM3
       clear hX
       generalize w3.heap.size = r at *)
    | (obtain ⟨X, hX⟩ : ∃ X, X = set5 w3 w2.heap.size (.int .i64 (ckind (readT c u))) (.int .i64 (cval (readT c u))) (.slice ro rn rc) (.int .i64 ((readT c u)).size) (.string (str (showT (readT c u)))) := ⟨_, rfl⟩
       unfold set5 at hX
       rw [← hX]
       have U3 := HU2.out.next k2
       have o3 := HO2.out.keep k2
       have r3 : Row (set5 w3 w2.heap.size (.int .i64 (ckind (readT c u))) (.int .i64 (cval (readT c u))) (.slice ro rn rc) (.int .i64 ((readT c u)).size) (.string (str (showT (readT c u))))) w2.heap.size 179 (tcells (readT c u) (.slice ro rn rc)) := rz.on5 _ _ _ _ _
       have p3' := p3.on5 rz rfl (.int .i64 (ckind (readT c u))) (.int .i64 (cval (readT c u))) (.slice ro rn rc) (.int .i64 ((readT c u)).size) (.string (str (showT (readT c u))))
       have HM3 : Hid (Mv B Lo w (set5 w3 w2.heap.size (.int .i64 (ckind (readT c u))) (.int .i64 (cval (readT c u))) (.slice ro rn rc) (.int .i64 ((readT c u)).size) (.string (str (showT (readT c u)))))) := HM2.out.trans (Mv.of k2 HU2.out.le)
       have hl3 : Lo ≤ w2.heap.size := by have := HM2.out.size; omega
       unfold set5 at U3 o3 r3 p3' HM3
       rw [← hX] at U3 o3 r3 p3' HM3
       clear hX
       generalize w2.heap.size = r at *)
    clear qr c0 c1 c2 c3 c4 a0 a1 a2 a3 a4 HU2 HO2 HM2 HRB p3 k0 k1 k2 kB kC b3 b3'
    have d0 : Below X.heap.size X X.drew := (Below.refl _ _).drew
    have U4 := U3.next d0
    have o4 := o3.keep d0
    have r4 := r3.keep d0
    have p4 := p3'.keep d0
    have m0 := U4.row.cell (i := 0) rfl
    have x1 := o4.cell (i := 1) rfl
    have e0 := (r4).cell (i := 0) rfl
    have e1 := (r4).cell (i := 1) rfl
    have e2 := (r4).cell (i := 2) rfl
    have e3 := (r4).cell (i := 3) rfl
    have e4 := (r4).cell (i := 4) rfl
    have g0 := U4.b.pl.frozen (a * 5)
    have g1 := U4.b.pl.frozen (a * 5 + 1)
    have g2 := U4.b.pl.frozen (a * 5 + 2)
    have g3 := U4.b.pl.frozen (a * 5 + 3)
    have g4 := U4.b.pl.frozen (a * 5 + 4)
    have t0 := U4.b.pl.cell (j := 0) ha rfl
    have t1 := U4.b.pl.cell (j := 1) ha rfl
    have t2 := U4.b.pl.cell (j := 2) ha rfl
    have t3 := U4.b.pl.cell (j := 3) ha rfl
    have t4 := U4.b.pl.cell (j := 4) ha rfl
    have h0 := U3.b.pl.frozen (a * 5)
    have h1 := U3.b.pl.frozen (a * 5 + 1)
    have h2 := U3.b.pl.frozen (a * 5 + 2)
    have h3 := U3.b.pl.frozen (a * 5 + 3)
    have h4 := U3.b.pl.frozen (a * 5 + 4)
    have s0 := U3.b.pl.cell (j := 0) ha rfl
    have s1 := U3.b.pl.cell (j := 1) ha rfl
    have s2 := U3.b.pl.cell (j := 2) ha rfl
    have s3 := U3.b.pl.cell (j := 3) ha rfl
    have s4 := U3.b.pl.cell (j := 4) ha rfl
    rw [Nat.add_zero] at t0 s0
    obtain ⟨po, pn, pq, hpa⟩ := (U4.b.parts a ha).slice
    rw [hpa] at t2 s2
    clear hpa
    have hnp : r ≠ P := by have := U3.b.hP'; omega
    have hnp' : P ≠ r := Ne.symm hnp
    have U5 := (U3.place ha p3').next ((Below.refl _ _).drew)
    have HM5 : Hid (Mv B Lo w (putT X P (a * 5) (readT c u) (.slice ro rn rc)).drew) := (HM3.out.putT U3.b.hP U3.b.hP' (a * 5) (readT c u) (.slice ro rn rc)).trans (Mv.of ((Below.refl _ _).drew) (U3.place ha p3').le)
    have r5 : Row (putT X P (a * 5) (readT c u) (.slice ro rn rc)) r 179 (tcells (readT c u) (.slice ro rn rc)) := by
      exact ((((r3.unset (a := ⟨P, _, none⟩) hnp _).unset (a := ⟨P, _, none⟩) hnp _).unset (a := ⟨P, _, none⟩) hnp _).unset (a := ⟨P, _, none⟩) hnp _).unset (a := ⟨P, _, none⟩) hnp _
    have HU5 := Lib.hid U5
    clear U4 o4 r4 p4 U3 o3 r3 p3' HM3 d0 U5
    go_wp2
    refine wp_tail 8 (by kernel_rfl) (by kernel_rfl) ?_
    simp only [List.take_succ_cons, List.take_zero, List.drop_succ_cons, List.drop_zero]
    repeat still_step
    refine wpStill_nil ?_
    have q5 := cIsBig_any (readT c u) (.slice ro rn rc) (putT X P (a * 5) (readT c u) (.slice ro rn rc)).drew
    have y0 := (r5).cell (i := 0) rfl
    have y1 := (r5).cell (i := 1) rfl
    have y2 := (r5).cell (i := 2) rfl
    have y3 := (r5).cell (i := 3) rfl
    have y4 := (r5).cell (i := 4) rfl
    unfold termV putT put5 at q5
    unfold putT put5 at y0 y1 y2 y3 y4
    clear r5
    go_wp2_with fail
    refine q5.mono ?_
    rintro e w6 ⟨rfl, b6⟩
    have U6 := HU5.out.next b6
    have HM6 : Hid (Mv B Lo w w6) := HM5.out.trans (Mv.of b6 HU5.out.le)
    have z7 := U6.row.cell (i := 7) rfl
    have f7 := U6.row.frozen 7
    have U7 := U6.flag (decide (4095 < (((readT c u)).size : Int)))
    have HF := Lib.hid (HP.out _ U7.at (HM6.out.set U6.hM U6.hM' 7 _))
    clear q5 b6 HU5 HM5 U6 U7 HM6 HP y0 y1 y2 y3 y4
    generalize decide (4095 < (((readT c u)).size : Int)) = zb at *
    go_wp2
    go_end0
    exact HF.out

end Go.Proofs.YtblhmeidbjigaabGreatDoor

/- The code's marks: markDiv. -/
set_option linter.unusedSimpArgs false
set_option linter.unusedVariables false
namespace Go.Proofs.YtblhmeidbjigaabGreatDoor
open Go.RowKit

theorem divText_idle {u v : TD} (h : u.isNum.isSome = true ∧ v.isNum.isSome = true ∧ numOf v ≠ 0) : divText u v = [] := by
  obtain ⟨k, hk⟩ := Option.isSome_iff_exists.1 h.1
  obtain ⟨y, hy⟩ := Option.isSome_iff_exists.1 h.2.1
  have e : numOf v = y := by simp [numOf, hy]
  rw [e] at h
  simp [divText, hk, hy, h.2.2]

theorem divText_else {u v : TD} (h : ¬ (u.isNum.isSome = true ∧ v.isNum.isSome = true ∧ numOf v ≠ 0)) : divText u v = 47 :: 32 :: (showT u ++ 32 :: showT v) := by
  unfold divText
  cases hk : u.isNum with
  | none => rfl
  | some k =>
    cases hy : v.isNum with
    | none => rfl
    | some y =>
      have e : numOf v = y := by simp [numOf, hy]
      rw [e, hk, hy] at h
      have : y = 0 := by
        by_cases q : y = 0
        · exact q
        · exact absurd ⟨rfl, rfl, q⟩ h
      subst this
      simp

set_option maxRecDepth 100000 in
set_option maxHeartbeats 4000000 in
theorem cMarkDiv_cps {B Lo : Nat} {w : World} {M P cap n : Nat} {f : Nat → TD} {c : TD} {ms : List (List UInt8)} {big : Bool} {regs data : Int} (h : StAt B Lo w M P cap n f c ms big regs data) (u v : TD) (pu pv : Value) (fu : u.fine) (fv : v.fine) (su : u.size ≤ 1000000000) (sv : v.size ≤ 1000000000) (hl : ms.length ≤ 1000) (Post : Ending → World → Prop)
    (hp : ∀ w', StAt B Lo w' M P cap n f c (laidMark ms (divText u v)) big regs data → Mv B Lo w w' → Post (.returned (.tuple #[])) w') :
    Calls Tryz.prog 213 #[.pointer (some ⟨M, 0, none⟩), termV u pu, termV v pv] w Post := by
  have hle : B ≤ w.heap.size := let ⟨_, _, _, U⟩ := h; U.le
  have hlo : Lo ≤ w.heap.size := let ⟨_, _, _, U⟩ := h; U.b.pc.lo
  have X0 := Duo.start w u v pu pv
  have H0 := Lib.hid (h.next X0.keep)
  have HX := Lib.hid X0
  have HP := Lib.hid hp
  have q1 := cNum_any fu pu ((w.alloc (.cells #[.int .i64 (ckind u), .int .i64 (cval u), pu, .int .i64 (u).size, .string (str (showT u))] 179)).alloc (.cells #[.int .i64 (ckind v), .int .i64 (cval v), pv, .int .i64 (v).size, .string (str (showT v))] 179))
  have q2 := fun W' => cNum_any fv pv W'
  have y1 := show_size fu (by omega)
  have y2 := show_size fv (by omega)
  unfold termV at q1 q2 ⊢
  clear h hp X0
  go_enter Tryz.func213, Tryz.ntmps213
  go_wp2_with fail
  refine q1.mono ?_
  rintro e w1 ⟨rfl, b1⟩
  have X1 := HX.out.next b1
  have H1 := Lib.hid (H0.out.next b1)
  have c0 := (X1.rv).cell (i := 0) rfl
  have c1 := (X1.rv).cell (i := 1) rfl
  have c2 := (X1.rv).cell (i := 2) rfl
  have c3 := (X1.rv).cell (i := 3) rfl
  have c4 := (X1.rv).cell (i := 4) rfl
  clear q1 b1 HX H0
  go_wp2_with fail
  refine (q2 w1).mono ?_
  rintro e w2 ⟨rfl, b2⟩
  have X2 := X1.next b2
  have H2 := Lib.hid (H1.out.next b2)
  have HM2 : Hid (Mv B Lo w w2) := Mv.of X2.keep hle
  have HX2 := Lib.hid X2
  clear q2 b2 H1 X1 X2 c0 c1 c2 c3 c4
  by_cases hc : u.isNum.isSome = true ∧ v.isNum.isSome = true ∧ numOf v ≠ 0
  · have HF := Lib.hid (HP.out w2 (by rw [divText_idle hc, laid_nil]; exact H2.out) HM2.out)
    obtain ⟨c1, c2, c3⟩ := hc
    have c4 : (numOf v == 0) = false := by simp [c3]
    rw [c1, c2]
    clear HP H2 HM2 HX2
    go_wp2
    go_end0
    exact HF.out
  · have HQ := Lib.hid HP.out
    rw [divText_else hc] at HQ
    have hs := div_str u v
    have HS := Lib.hid hs
    have k0 : Below w2.heap.size w2 w2.drew := (Below.refl _ _).drew
    have s0 : Mv B Lo w2 w2.drew := Mv.of k0 (Nat.le_trans hle HM2.out.size)
    have RU := fun V (m : Mv B Lo w2 V) => m.row _ _ _ (show Lo ≤ w.heap.size from hlo) (by decide) HX2.out.ru
    have RV := fun V (m : Mv B Lo w2 V) => m.row _ _ _ (show Lo ≤ w.heap.size + 1 by omega) (by decide) HX2.out.rv
    have a0 := fun V m => (RU V m).cell (i := 0) rfl
    have a1 := fun V m => (RU V m).cell (i := 1) rfl
    have a2 := fun V m => (RU V m).cell (i := 2) rfl
    have a3 := fun V m => (RU V m).cell (i := 3) rfl
    have a4 := fun V m => (RU V m).cell (i := 4) rfl
    have c0 := fun V m => (RV V m).cell (i := 0) rfl
    have c1 := fun V m => (RV V m).cell (i := 1) rfl
    have c2 := fun V m => (RV V m).cell (i := 2) rfl
    have c3 := fun V m => (RV V m).cell (i := 3) rfl
    have c4 := fun V m => (RV V m).cell (i := 4) rfl
    have qu : ∀ V, Below w2.heap.size w2 V → Calls Tryz.prog 148 #[.agg #[.int .i64 (ckind u), .int .i64 (cval u), pu, .int .i64 u.size, .string (str (showT u))]] V fun e w' => e = .returned (.string (str (showT u))) ∧ Below w2.heap.size w2 w' ∧ Mv B Lo w2 w' := fun V hv =>
      (cText_any (ckind u) (cval u) u.size pu (str (showT u)) V).mono fun e w' q => ⟨q.1, hv.trans (q.2.mono hv.size), Mv.of (hv.trans (q.2.mono hv.size)) (Nat.le_trans hle HM2.out.size)⟩
    have qv : ∀ V, Below w2.heap.size w2 V → Calls Tryz.prog 148 #[.agg #[.int .i64 (ckind v), .int .i64 (cval v), pv, .int .i64 v.size, .string (str (showT v))]] V fun e w' => e = .returned (.string (str (showT v))) ∧ Below w2.heap.size w2 w' ∧ Mv B Lo w2 w' := fun V hv =>
      (cText_any (ckind v) (cval v) v.size pv (str (showT v)) V).mono fun e w' q => ⟨q.1, hv.trans (q.2.mono hv.size), Mv.of (hv.trans (q.2.mono hv.size)) (Nat.le_trans hle HM2.out.size)⟩
    have qm : ∀ V P', Below w2.heap.size w2 V → (∀ w', Post (.returned (.tuple #[])) w' → Mv B Lo w2 w' → P' (.returned (.tuple #[])) w') → Calls Tryz.prog 216 #[.pointer (some ⟨M, 0, none⟩), .string (((⟨#[47, 32]⟩ : ByteArray) ++ str (showT u) ++ ⟨#[32]⟩) ++ str (showT v))] V P' := by
      intro V P' hv hP
      rw [HS.out]
      have m2 : Mv B Lo w2 V := Mv.of hv (Nat.le_trans hle HM2.out.size)
      exact cMark_cps (H2.out.next hv) _ (by simp) hl P' (fun w' h' m' => hP w' (HQ.out w' h' (HM2.out.trans (m2.trans m'))) (m2.trans m'))
    have h3 : u.isNum.isSome = false ∨ (u.isNum.isSome = true ∧ v.isNum.isSome = false) ∨ (u.isNum.isSome = true ∧ v.isNum.isSome = true ∧ numOf v = 0) := by
      cases hz : u.isNum.isSome with
      | false => exact .inl rfl
      | true =>
        cases hy : v.isNum.isSome with
        | false => exact .inr (.inl ⟨rfl, rfl⟩)
        | true =>
          refine .inr (.inr ⟨rfl, rfl, ?_⟩)
          by_cases q : numOf v = 0
          · exact q
          · exact absurd ⟨hz, hy, q⟩ hc
    clear hc HP H2 HX2 HQ RU RV hs HS
    generalize numOf u = nu at *
    generalize u.isNum.isSome = zu at *
    generalize numOf v = nv at *
    generalize v.isNum.isSome = zv at *
    generalize str (showT u) = SU at *
    generalize str (showT v) = SV at *
    have g1 : (9223372036854775807 < 2 + SU.size) = False := by simp only [eq_iff_iff, iff_false]; omega
    have g2 : (9223372036854775807 < 2 + SU.size + 1) = False := by simp only [eq_iff_iff, iff_false]; omega
    have g3 : (9223372036854775807 < 2 + SU.size + 1 + SV.size) = False := by simp only [eq_iff_iff, iff_false]; omega
    have g4 : (9223372036854775806 < 2 + SU.size) = False := by simp only [eq_iff_iff, iff_false]; omega
    rcases h3 with rfl | ⟨rfl, rfl⟩ | ⟨rfl, rfl, rfl⟩
    all_goals
      go_wp2
      go_region_held3 (fun V => Mv B Lo w2 V) (first | with_reducible exact s0 | with_reducible exact s3 | with_reducible exact s4 | with_reducible exact s5) (first | (go_at_call 148; with_reducible refine (qu _ ?_).mono ?_; with_reducible exact k0; rintro e w3 ⟨rfl, b3, s3⟩) | (go_at_call 148; with_reducible refine (qv _ ?_).mono ?_; with_reducible exact b3; rintro e w4 ⟨rfl, b4, s4⟩) | (go_at_call 216; with_reducible refine qm _ _ ?_ ?_; with_reducible exact b4; intro w5 hF s5; have HF := Lib.hid hF; clear hF))
      go_wp2
      go_end0
      exact HF.out

end Go.Proofs.YtblhmeidbjigaabGreatDoor

/- The code's state: compute. -/
set_option linter.unusedSimpArgs false
set_option linter.unusedVariables false
namespace Go.Proofs.YtblhmeidbjigaabGreatDoor
open Go.RowKit

set_option maxRecDepth 100000 in
set_option maxHeartbeats 4000000 in
theorem cCompute_cps {B Lo : Nat} {w : World} {M P cap n : Nat} {f : Nat → TD} {c : TD} {ms : List (List UInt8)} {regs data : Int} (h : StAt B Lo w M P cap n f c ms false regs data) (k : Int) (a b d : Nat) (hk : 3 ≤ k ∧ k ≤ 11) (ha : a < n) (hb : b < n) (hd : d < n) (hn : n ≤ 1000) (fu : (f b).fine) (su : (f b).size ≤ 10000000) (fv : (f d).fine) (sv : (f d).size ≤ 10000000) (hl : ms.length ≤ 1000) (ht : ∀ V, Below B w V → TabW V) (Post : Ending → World → Prop)
    (hp : ∀ w', StAt B Lo w' M P cap n (upT f a (madeT k (f b) (f d))) c (if k = 11 then laidMark ms (divText (f b) (f d)) else ms) (decide (4095 < ((madeT k (f b) (f d)).size : Int))) regs data → Mv B Lo w w' → Post (.returned (.tuple #[])) w') :
    Calls Tryz.prog 202 #[.pointer (some ⟨M, 0, none⟩), .agg #[.int .i64 k, .int .i64 a, .int .i64 b, .int .i64 d]] w Post := by
  obtain ⟨ps, pc, mv, U⟩ := h
  obtain ⟨uo, un, uc, hpu⟩ := (U.b.parts b hb).slice
  obtain ⟨vo, vn, vc, hpv⟩ := (U.b.parts d hd).slice
  have pu := U.b.parts b hb
  have pv := U.b.parts d hd
  rw [hpu] at pu
  rw [hpv] at pv
  have hle := U.le
  have hlo : Lo ≤ w.heap.size := U.b.pc.lo
  have b0 : Below w.heap.size w (w.alloc (.cells #[.int .i64 k, .int .i64 a, .int .i64 b, .int .i64 d] 36)) := (Below.refl _ _).alloc (Nat.le_refl _) _
  have o0 : Row (w.alloc (.cells #[.int .i64 k, .int .i64 a, .int .i64 b, .int .i64 d] 36)) w.heap.size 36 [.int .i64 k, .int .i64 a, .int .i64 b, .int .i64 d] := heap_alloc_new w _
  have U0 := U.next b0
  obtain ⟨W, hW⟩ : ∃ W, W = w.alloc (.cells #[.int .i64 k, .int .i64 a, .int .i64 b, .int .i64 d] 36) := ⟨_, rfl⟩
  rw [← hW] at b0 o0 U0
  obtain ⟨u, hu⟩ : ∃ u, f b = u := ⟨_, rfl⟩
  obtain ⟨v, hv⟩ : ∃ v, f d = v := ⟨_, rfl⟩
  have plW := U0.plc hb hu hpu
  rw [hu] at fu su hp pu
  rw [hv] at fv sv hp pv
  have hzW : w.heap.size < W.heap.size := by rw [hW]; simp
  have m0 : ∀ V, Below W.heap.size W V → V.cell? ⟨M, 0, none⟩ = some (.slice (some ⟨P, 0, none⟩) n cap) := fun V hv => cell_keep hv (U0.row.cell (i := 0) rfl)
  have x0 : ∀ V, Below W.heap.size W V → V.cell? ⟨w.heap.size, 2, none⟩ = some (.int .i64 b) := fun V hv => cell_keep hv (o0.cell (i := 2) rfl)
  have p0 : ∀ V, Below W.heap.size W V → V.cell? ⟨P, b * 5, none⟩ = some (.int .i64 (ckind u)) := fun V hv => cell_keep hv (plW 0 _ rfl)
  have p1 : ∀ V, Below W.heap.size W V → V.cell? ⟨P, b * 5 + 1, none⟩ = some (.int .i64 (cval u)) := fun V hv => cell_keep hv (plW 1 _ rfl)
  have p2 : ∀ V, Below W.heap.size W V → V.cell? ⟨P, b * 5 + 2, none⟩ = some (.slice uo un uc) := fun V hv => cell_keep hv (plW 2 _ rfl)
  have p3 : ∀ V, Below W.heap.size W V → V.cell? ⟨P, b * 5 + 3, none⟩ = some (.int .i64 (u).size) := fun V hv => cell_keep hv (plW 3 _ rfl)
  have p4 : ∀ V, Below W.heap.size W V → V.cell? ⟨P, b * 5 + 4, none⟩ = some (.string (str (showT u))) := fun V hv => cell_keep hv (plW 4 _ rfl)
  have hbi : (0 : Int) ≤ (b : Int) := by omega
  have hbj : (b : Int) < (n : Int) := by omega
  have hdi : (0 : Int) ≤ (d : Int) := by omega
  have hdj : (d : Int) < (n : Int) := by omega
  have hai : (0 : Int) ≤ (a : Int) := by omega
  have haj : (a : Int) < (n : Int) := by omega
  have k0 : Below W.heap.size W W.drew := (Below.refl _ _).drew
  have k1 : Below W.heap.size W (W.drew.alloc (.cells #[.int .i64 0, .int .i64 0, .slice none 0 0, .int .i64 0, .string ⟨#[]⟩] 179)) := k0.alloc (Nat.le_refl _) _
  have k2 : Below W.heap.size W (W.drew.alloc (.cells #[.int .i64 (ckind u), .int .i64 (cval u), (.slice uo un uc), .int .i64 (u).size, .string (str (showT u))] 179)) := k0.alloc (Nat.le_refl _) _
  have k3 : Below W.heap.size W (W.alloc (.cells #[.int .i64 (ckind u), .int .i64 (cval u), (.slice uo un uc), .int .i64 (u).size, .string (str (showT u))] 179)).drew := ((Below.refl _ _).alloc (Nat.le_refl _) _).drew
  have u1 : Row (W.alloc (.cells #[.int .i64 (ckind u), .int .i64 (cval u), (.slice uo un uc), .int .i64 (u).size, .string (str (showT u))] 179)).drew W.heap.size 179 (tcells u (.slice uo un uc)) := heap_alloc_new W _
  have b1 := b0.trans (k3.mono b0.size)
  have U1 := U0.next k3
  have o1 := o0.keep k3
  have HP := Lib.hid hp
  have HT := Lib.hid ht
  have HUE := Lib.hid hu
  have HVE := Lib.hid hv
  have hWW := Lib.hid hW
  clear hp hu plW U U0 o0 b0 hW ht hpu
  go_enter Tryz.func202, Tryz.ntmps202
  go_wp2
  rw [← hWW.out]
  clear hWW
  go_region_held3 (fun w' => Below W.heap.size W w') (first | with_reducible exact k0 | with_reducible exact k1 | with_reducible exact k2 | exact k1 | exact k2) (fail)
  clear m0 x0 p0 p1 p2 p3 p4 k0 k1 k2 k3
  obtain ⟨Z, hZ⟩ : ∃ Z, Z = (W.alloc (.cells #[.int .i64 (ckind u), .int .i64 (cval u), (.slice uo un uc), .int .i64 (u).size, .string (str (showT u))] 179)).drew := ⟨_, rfl⟩
  rw [← hZ] at u1 b1 U1 o1 ⊢
  have hzZ : W.heap.size < Z.heap.size := by rw [hZ]; simp
  clear hZ
  have plZ := U1.plc hd hv hpv
  have m0 : ∀ V, Below Z.heap.size Z V → V.cell? ⟨M, 0, none⟩ = some (.slice (some ⟨P, 0, none⟩) n cap) := fun V hv => cell_keep hv (U1.row.cell (i := 0) rfl)
  have x0 : ∀ V, Below Z.heap.size Z V → V.cell? ⟨w.heap.size, 3, none⟩ = some (.int .i64 d) := fun V hv => cell_keep hv (o1.cell (i := 3) rfl)
  have p0 : ∀ V, Below Z.heap.size Z V → V.cell? ⟨P, d * 5, none⟩ = some (.int .i64 (ckind v)) := fun V hv => cell_keep hv (plZ 0 _ rfl)
  have p1 : ∀ V, Below Z.heap.size Z V → V.cell? ⟨P, d * 5 + 1, none⟩ = some (.int .i64 (cval v)) := fun V hv => cell_keep hv (plZ 1 _ rfl)
  have p2 : ∀ V, Below Z.heap.size Z V → V.cell? ⟨P, d * 5 + 2, none⟩ = some (.slice vo vn vc) := fun V hv => cell_keep hv (plZ 2 _ rfl)
  have p3 : ∀ V, Below Z.heap.size Z V → V.cell? ⟨P, d * 5 + 3, none⟩ = some (.int .i64 (v).size) := fun V hv => cell_keep hv (plZ 3 _ rfl)
  have p4 : ∀ V, Below Z.heap.size Z V → V.cell? ⟨P, d * 5 + 4, none⟩ = some (.string (str (showT v))) := fun V hv => cell_keep hv (plZ 4 _ rfl)
  have k0 : Below Z.heap.size Z Z.drew := (Below.refl _ _).drew
  have k1 : Below Z.heap.size Z (Z.drew.alloc (.cells #[.int .i64 0, .int .i64 0, .slice none 0 0, .int .i64 0, .string ⟨#[]⟩] 179)) := k0.alloc (Nat.le_refl _) _
  have k2 : Below Z.heap.size Z (Z.drew.alloc (.cells #[.int .i64 (ckind v), .int .i64 (cval v), (.slice vo vn vc), .int .i64 (v).size, .string (str (showT v))] 179)) := k0.alloc (Nat.le_refl _) _
  have k3 : Below Z.heap.size Z (Z.alloc (.cells #[.int .i64 (ckind v), .int .i64 (cval v), (.slice vo vn vc), .int .i64 (v).size, .string (str (showT v))] 179)).drew := ((Below.refl _ _).alloc (Nat.le_refl _) _).drew
  have v2 : Row (Z.alloc (.cells #[.int .i64 (ckind v), .int .i64 (cval v), (.slice vo vn vc), .int .i64 (v).size, .string (str (showT v))] 179)).drew Z.heap.size 179 (tcells v (.slice vo vn vc)) := heap_alloc_new Z _
  have b2 := b1.trans (k3.mono b1.size)
  have U2 := U1.next k3
  have o2 := o1.keep k3
  have u2 := u1.keep k3
  have pu2 := pu.keep b2
  have pv2 := pv.keep b2
  have HM2 : Hid (Mv B Lo w (Z.alloc (.cells #[.int .i64 (ckind v), .int .i64 (cval v), (.slice vo vn vc), .int .i64 (v).size, .string (str (showT v))] 179)).drew) := Mv.of b2 hle
  clear hv plZ U1 o1 u1 b1 hpv pu pv
  go_wp2
  go_region_held3 (fun w' => Below Z.heap.size Z w') (first | with_reducible exact k0 | with_reducible exact k1 | with_reducible exact k2 | exact k1 | exact k2) (fail)
  clear m0 x0 p0 p1 p2 p3 p4 k0 k1 k2 k3
  obtain ⟨w2, hw2⟩ : ∃ w2, w2 = (Z.alloc (.cells #[.int .i64 (ckind v), .int .i64 (cval v), (.slice vo vn vc), .int .i64 (v).size, .string (str (showT v))] 179)).drew := ⟨_, rfl⟩
  rw [← hw2] at v2 b2 U2 o2 u2 pu2 pv2 HM2 ⊢
  clear hw2
  have y0 := o2.cell (i := 0) rfl
  have hl1 : Lo ≤ W.heap.size := by omega
  have hl2 : Lo ≤ Z.heap.size := by omega
  clear b2
  by_cases h11 : k = 11
  · have q2 := fun P' => cMarkDiv_cps U2.at u v (.slice uo un uc) (.slice vo vn vc) fu fv (by omega) (by omega) hl P'
    unfold termV at q2
    have e11 : (k == 11) = true := by simp [h11]
    have HK := Lib.hid h11
    have HP2 : Hid _ := HP.out
    rw [if_pos h11] at HP2
    have HQ := Lib.hid HP2.out
    clear HP HP2 h11
    have a0 := (u2).cell (i := 0) rfl
    have a1 := (u2).cell (i := 1) rfl
    have a2 := (u2).cell (i := 2) rfl
    have a3 := (u2).cell (i := 3) rfl
    have a4 := (u2).cell (i := 4) rfl
    have v0 := (v2).cell (i := 0) rfl
    have v1 := (v2).cell (i := 1) rfl
    have vv2 := (v2).cell (i := 2) rfl
    have v3 := (v2).cell (i := 3) rfl
    have v4 := (v2).cell (i := 4) rfl
    have HR1 := Lib.hid u2
    have HR2 := Lib.hid v2
    have HO1 := Lib.hid o2
    have HPU := Lib.hid pu2
    have HPV := Lib.hid pv2
    clear u2 v2 o2 pu2 pv2
    go_wp2_with fail
    refine q2 _ ?_
    intro w2' h2 m2
    have u2 := m2.row _ _ _ hl1 (by decide) HR1.out
    have v2 := m2.row _ _ _ hl2 (by decide) HR2.out
    have o2 := m2.row _ _ _ hlo (by decide) HO1.out
    have HM2' : Hid (Mv B Lo w w2') := HM2.out.trans m2
    have pu2 := HPU.out.mv m2
    have pv2 := HPV.out.mv m2
    obtain ⟨ps2, pc2, mv2, U2'⟩ := h2
    have HP := Lib.hid HQ.out
    clear q2 HR1 HR2 HO1 HPU HPV HQ m2 a0 a1 a2 a3 a4 v0 v1 vv2 v3 v4 y0 U2 HM2
    have q3 := fun P' => cMade_cps k hk u v (.slice uo un uc) (.slice vo vn vc) w2' pu2 pv2 fu fv (by omega) (by omega) (HT.out w2' HM2'.out.low) P'
    unfold termV at q3
    have a0 := (u2).cell (i := 0) rfl
    have a1 := (u2).cell (i := 1) rfl
    have a2 := (u2).cell (i := 2) rfl
    have a3 := (u2).cell (i := 3) rfl
    have a4 := (u2).cell (i := 4) rfl
    have j0 := (v2).cell (i := 0) rfl
    have j1 := (v2).cell (i := 1) rfl
    have j2 := (v2).cell (i := 2) rfl
    have j3 := (v2).cell (i := 3) rfl
    have j4 := (v2).cell (i := 4) rfl
    have x0 := o2.cell (i := 0) rfl
    have HU2 := Lib.hid U2'
    have HO2 := Lib.hid o2
    clear U2' pu2 pv2 o2 u2 v2 HT
    go_wp2_with fail
    refine q3 _ ?_
    intro pt w3 p3 b3
    obtain ⟨ro, rn, rc, rfl⟩ := p3.slice
    have k2 : Below w2'.heap.size w2' (w3.alloc (.cells #[.int .i64 (ckind (madeT k u v)), .int .i64 (cval (madeT k u v)), (.slice ro rn rc), .int .i64 ((madeT k u v)).size, .string (str (showT (madeT k u v)))] 179)) := b3.alloc b3.size _
    clear q3 a0 a1 a2 a3 a4 j0 j1 j2 j3 j4 x0
    have U3 := HU2.out.next k2
    have o3 := HO2.out.keep k2
    have r3 : Row (w3.alloc (.cells #[.int .i64 (ckind (madeT k u v)), .int .i64 (cval (madeT k u v)), (.slice ro rn rc), .int .i64 ((madeT k u v)).size, .string (str (showT (madeT k u v)))] 179)) w3.heap.size 179 (tcells (madeT k u v) (.slice ro rn rc)) := heap_alloc_new w3 _
    have p3' := p3.keep ((Below.refl w3.heap.size w3).alloc (Nat.le_refl _) (.cells #[.int .i64 (ckind (madeT k u v)), .int .i64 (cval (madeT k u v)), (.slice ro rn rc), .int .i64 ((madeT k u v)).size, .string (str (showT (madeT k u v)))] 179))
    have HM3 : Hid (Mv B Lo w (w3.alloc (.cells #[.int .i64 (ckind (madeT k u v)), .int .i64 (cval (madeT k u v)), (.slice ro rn rc), .int .i64 ((madeT k u v)).size, .string (str (showT (madeT k u v)))] 179))) := HM2'.out.trans (Mv.of k2 HU2.out.le)
    have hl3 : Lo ≤ w3.heap.size := Nat.le_trans (by have := HM2'.out.size; omega) b3.size
    clear HU2 HO2 HM2' p3 k2 b3
    obtain ⟨X, hX⟩ : ∃ X, X = w3.alloc (.cells #[.int .i64 (ckind (madeT k u v)), .int .i64 (cval (madeT k u v)), (.slice ro rn rc), .int .i64 ((madeT k u v)).size, .string (str (showT (madeT k u v)))] 179) := ⟨_, rfl⟩
    obtain ⟨r, hr⟩ : ∃ r, r = w3.heap.size := ⟨_, rfl⟩
    have HXE := Lib.hid hX
    have HRE := Lib.hid hr
    rw [← hX, ← hr] at r3
    rw [← hX] at U3 o3 p3' HM3
    rw [← hr] at hl3
    clear hX hr
    have d0 : Below X.heap.size X X.drew := (Below.refl _ _).drew
    have U4 := U3.next d0
    have o4 := o3.keep d0
    have r4 := r3.keep d0
    have p4 := p3'.keep d0
    have m0 := U4.row.cell (i := 0) rfl
    have x1 := o4.cell (i := 1) rfl
    have e0 := (r4).cell (i := 0) rfl
    have e1 := (r4).cell (i := 1) rfl
    have e2 := (r4).cell (i := 2) rfl
    have e3 := (r4).cell (i := 3) rfl
    have e4 := (r4).cell (i := 4) rfl
    have g0 := U4.b.pl.frozen (a * 5)
    have g1 := U4.b.pl.frozen (a * 5 + 1)
    have g2 := U4.b.pl.frozen (a * 5 + 2)
    have g3 := U4.b.pl.frozen (a * 5 + 3)
    have g4 := U4.b.pl.frozen (a * 5 + 4)
    have t0 := U4.b.pl.cell (j := 0) ha rfl
    have t1 := U4.b.pl.cell (j := 1) ha rfl
    have t2 := U4.b.pl.cell (j := 2) ha rfl
    have t3 := U4.b.pl.cell (j := 3) ha rfl
    have t4 := U4.b.pl.cell (j := 4) ha rfl
    have h0 := U3.b.pl.frozen (a * 5)
    have h1 := U3.b.pl.frozen (a * 5 + 1)
    have h2 := U3.b.pl.frozen (a * 5 + 2)
    have h3 := U3.b.pl.frozen (a * 5 + 3)
    have h4 := U3.b.pl.frozen (a * 5 + 4)
    have s0 := U3.b.pl.cell (j := 0) ha rfl
    have s1 := U3.b.pl.cell (j := 1) ha rfl
    have s2 := U3.b.pl.cell (j := 2) ha rfl
    have s3 := U3.b.pl.cell (j := 3) ha rfl
    have s4 := U3.b.pl.cell (j := 4) ha rfl
    rw [Nat.add_zero] at t0 s0
    obtain ⟨po, pn, pq, hpa⟩ := (U4.b.parts a ha).slice
    rw [hpa] at t2 s2
    clear hpa
    have hnp : r ≠ P := by have := U3.b.hP'; omega
    have hnp' : P ≠ r := Ne.symm hnp
    have U5 := (U3.place ha p3').next ((Below.refl _ _).drew)
    have HM5 : Hid (Mv B Lo w (putT X P (a * 5) (madeT k u v) (.slice ro rn rc)).drew) := (HM3.out.putT U3.b.hP U3.b.hP' (a * 5) (madeT k u v) (.slice ro rn rc)).trans (Mv.of ((Below.refl _ _).drew) (U3.place ha p3').le)
    have r5 : Row (putT X P (a * 5) (madeT k u v) (.slice ro rn rc)) r 179 (tcells (madeT k u v) (.slice ro rn rc)) := by
      exact ((((r3.unset (a := ⟨P, _, none⟩) hnp _).unset (a := ⟨P, _, none⟩) hnp _).unset (a := ⟨P, _, none⟩) hnp _).unset (a := ⟨P, _, none⟩) hnp _).unset (a := ⟨P, _, none⟩) hnp _
    have HU5 := Lib.hid U5
    clear U4 o4 r4 p4 U3 o3 r3 p3' HM3 d0 U5
    go_wp2
    rw [← HXE.out, ← HRE.out]
    clear HXE HRE
    refine wp_tail 8 (by kernel_rfl) (by kernel_rfl) ?_
    simp only [List.take_succ_cons, List.take_zero, List.drop_succ_cons, List.drop_zero]
    repeat still_step
    refine wpStill_nil ?_
    have q5 := cIsBig_any (madeT k u v) (.slice ro rn rc) (putT X P (a * 5) (madeT k u v) (.slice ro rn rc)).drew
    have y0 := (r5).cell (i := 0) rfl
    have y1 := (r5).cell (i := 1) rfl
    have y2 := (r5).cell (i := 2) rfl
    have y3 := (r5).cell (i := 3) rfl
    have y4 := (r5).cell (i := 4) rfl
    unfold termV putT put5 at q5
    unfold putT put5 at y0 y1 y2 y3 y4
    clear r5
    go_wp2_with fail
    refine q5.mono ?_
    rintro e w6 ⟨rfl, b6⟩
    have U6 := HU5.out.next b6
    have HM6 : Hid (Mv B Lo w w6) := HM5.out.trans (Mv.of b6 HU5.out.le)
    have z7 := U6.row.cell (i := 7) rfl
    have f7 := U6.row.frozen 7
    have U7 := U6.flag (decide (4095 < (((madeT k u v)).size : Int)))
    have HF := Lib.hid (HP.out _ U7.at (HM6.out.set U6.hM U6.hM' 7 _))
    clear q5 b6 HU5 HM5 U6 U7 HM6 HP y0 y1 y2 y3 y4
    generalize decide (4095 < (((madeT k u v)).size : Int)) = zb at *
    go_wp2
    go_end0
    exact HF.out
  · have HP2 : Hid _ := HP.out
    rw [if_neg h11] at HP2
    have HQ := Lib.hid HP2.out
    clear HP HP2
    have HP := Lib.hid HQ.out
    have e11 : (k == 11) = false := by simp [h11]
    clear HQ y0
    have q3 := fun P' => cMade_cps k hk u v (.slice uo un uc) (.slice vo vn vc) w2 pu2 pv2 fu fv (by omega) (by omega) (HT.out w2 HM2.out.low) P'
    unfold termV at q3
    have a0 := (u2).cell (i := 0) rfl
    have a1 := (u2).cell (i := 1) rfl
    have a2 := (u2).cell (i := 2) rfl
    have a3 := (u2).cell (i := 3) rfl
    have a4 := (u2).cell (i := 4) rfl
    have j0 := (v2).cell (i := 0) rfl
    have j1 := (v2).cell (i := 1) rfl
    have j2 := (v2).cell (i := 2) rfl
    have j3 := (v2).cell (i := 3) rfl
    have j4 := (v2).cell (i := 4) rfl
    have x0 := o2.cell (i := 0) rfl
    have HU2 := Lib.hid U2
    have HO2 := Lib.hid o2
    clear U2 pu2 pv2 o2 u2 v2 HT
    go_wp2_with fail
    refine q3 _ ?_
    intro pt w3 p3 b3
    obtain ⟨ro, rn, rc, rfl⟩ := p3.slice
    have k2 : Below w2.heap.size w2 (w3.alloc (.cells #[.int .i64 (ckind (madeT k u v)), .int .i64 (cval (madeT k u v)), (.slice ro rn rc), .int .i64 ((madeT k u v)).size, .string (str (showT (madeT k u v)))] 179)) := b3.alloc b3.size _
    clear q3 a0 a1 a2 a3 a4 j0 j1 j2 j3 j4 x0
    have U3 := HU2.out.next k2
    have o3 := HO2.out.keep k2
    have r3 : Row (w3.alloc (.cells #[.int .i64 (ckind (madeT k u v)), .int .i64 (cval (madeT k u v)), (.slice ro rn rc), .int .i64 ((madeT k u v)).size, .string (str (showT (madeT k u v)))] 179)) w3.heap.size 179 (tcells (madeT k u v) (.slice ro rn rc)) := heap_alloc_new w3 _
    have p3' := p3.keep ((Below.refl w3.heap.size w3).alloc (Nat.le_refl _) (.cells #[.int .i64 (ckind (madeT k u v)), .int .i64 (cval (madeT k u v)), (.slice ro rn rc), .int .i64 ((madeT k u v)).size, .string (str (showT (madeT k u v)))] 179))
    have HM3 : Hid (Mv B Lo w (w3.alloc (.cells #[.int .i64 (ckind (madeT k u v)), .int .i64 (cval (madeT k u v)), (.slice ro rn rc), .int .i64 ((madeT k u v)).size, .string (str (showT (madeT k u v)))] 179))) := HM2.out.trans (Mv.of k2 HU2.out.le)
    have hl3 : Lo ≤ w3.heap.size := Nat.le_trans (by have := HM2.out.size; omega) b3.size
    clear HU2 HO2 HM2 p3 k2 b3
    obtain ⟨X, hX⟩ : ∃ X, X = w3.alloc (.cells #[.int .i64 (ckind (madeT k u v)), .int .i64 (cval (madeT k u v)), (.slice ro rn rc), .int .i64 ((madeT k u v)).size, .string (str (showT (madeT k u v)))] 179) := ⟨_, rfl⟩
    obtain ⟨r, hr⟩ : ∃ r, r = w3.heap.size := ⟨_, rfl⟩
    have HXE := Lib.hid hX
    have HRE := Lib.hid hr
    rw [← hX, ← hr] at r3
    rw [← hX] at U3 o3 p3' HM3
    rw [← hr] at hl3
    clear hX hr
    have d0 : Below X.heap.size X X.drew := (Below.refl _ _).drew
    have U4 := U3.next d0
    have o4 := o3.keep d0
    have r4 := r3.keep d0
    have p4 := p3'.keep d0
    have m0 := U4.row.cell (i := 0) rfl
    have x1 := o4.cell (i := 1) rfl
    have e0 := (r4).cell (i := 0) rfl
    have e1 := (r4).cell (i := 1) rfl
    have e2 := (r4).cell (i := 2) rfl
    have e3 := (r4).cell (i := 3) rfl
    have e4 := (r4).cell (i := 4) rfl
    have g0 := U4.b.pl.frozen (a * 5)
    have g1 := U4.b.pl.frozen (a * 5 + 1)
    have g2 := U4.b.pl.frozen (a * 5 + 2)
    have g3 := U4.b.pl.frozen (a * 5 + 3)
    have g4 := U4.b.pl.frozen (a * 5 + 4)
    have t0 := U4.b.pl.cell (j := 0) ha rfl
    have t1 := U4.b.pl.cell (j := 1) ha rfl
    have t2 := U4.b.pl.cell (j := 2) ha rfl
    have t3 := U4.b.pl.cell (j := 3) ha rfl
    have t4 := U4.b.pl.cell (j := 4) ha rfl
    have h0 := U3.b.pl.frozen (a * 5)
    have h1 := U3.b.pl.frozen (a * 5 + 1)
    have h2 := U3.b.pl.frozen (a * 5 + 2)
    have h3 := U3.b.pl.frozen (a * 5 + 3)
    have h4 := U3.b.pl.frozen (a * 5 + 4)
    have s0 := U3.b.pl.cell (j := 0) ha rfl
    have s1 := U3.b.pl.cell (j := 1) ha rfl
    have s2 := U3.b.pl.cell (j := 2) ha rfl
    have s3 := U3.b.pl.cell (j := 3) ha rfl
    have s4 := U3.b.pl.cell (j := 4) ha rfl
    rw [Nat.add_zero] at t0 s0
    obtain ⟨po, pn, pq, hpa⟩ := (U4.b.parts a ha).slice
    rw [hpa] at t2 s2
    clear hpa
    have hnp : r ≠ P := by have := U3.b.hP'; omega
    have hnp' : P ≠ r := Ne.symm hnp
    have U5 := (U3.place ha p3').next ((Below.refl _ _).drew)
    have HM5 : Hid (Mv B Lo w (putT X P (a * 5) (madeT k u v) (.slice ro rn rc)).drew) := (HM3.out.putT U3.b.hP U3.b.hP' (a * 5) (madeT k u v) (.slice ro rn rc)).trans (Mv.of ((Below.refl _ _).drew) (U3.place ha p3').le)
    have r5 : Row (putT X P (a * 5) (madeT k u v) (.slice ro rn rc)) r 179 (tcells (madeT k u v) (.slice ro rn rc)) := by
      exact ((((r3.unset (a := ⟨P, _, none⟩) hnp _).unset (a := ⟨P, _, none⟩) hnp _).unset (a := ⟨P, _, none⟩) hnp _).unset (a := ⟨P, _, none⟩) hnp _).unset (a := ⟨P, _, none⟩) hnp _
    have HU5 := Lib.hid U5
    clear U4 o4 r4 p4 U3 o3 r3 p3' HM3 d0 U5
    go_wp2
    rw [← HXE.out, ← HRE.out]
    clear HXE HRE
    refine wp_tail 8 (by kernel_rfl) (by kernel_rfl) ?_
    simp only [List.take_succ_cons, List.take_zero, List.drop_succ_cons, List.drop_zero]
    repeat still_step
    refine wpStill_nil ?_
    have q5 := cIsBig_any (madeT k u v) (.slice ro rn rc) (putT X P (a * 5) (madeT k u v) (.slice ro rn rc)).drew
    have y0 := (r5).cell (i := 0) rfl
    have y1 := (r5).cell (i := 1) rfl
    have y2 := (r5).cell (i := 2) rfl
    have y3 := (r5).cell (i := 3) rfl
    have y4 := (r5).cell (i := 4) rfl
    unfold termV putT put5 at q5
    unfold putT put5 at y0 y1 y2 y3 y4
    clear r5
    go_wp2_with fail
    refine q5.mono ?_
    rintro e w6 ⟨rfl, b6⟩
    have U6 := HU5.out.next b6
    have HM6 : Hid (Mv B Lo w w6) := HM5.out.trans (Mv.of b6 HU5.out.le)
    have z7 := U6.row.cell (i := 7) rfl
    have f7 := U6.row.frozen 7
    have U7 := U6.flag (decide (4095 < (((madeT k u v)).size : Int)))
    have HF := Lib.hid (HP.out _ U7.at (HM6.out.set U6.hM U6.hM' 7 _))
    clear q5 b6 HU5 HM5 U6 U7 HM6 HP y0 y1 y2 y3 y4
    generalize decide (4095 < (((madeT k u v)).size : Int)) = zb at *
    go_wp2
    go_end0
    exact HF.out

end Go.Proofs.YtblhmeidbjigaabGreatDoor

/- A region whose first operation hands a value on that only its tail asks for: the first is taken, then what reads, then the tail. -/
set_option linter.unusedSimpArgs false
set_option linter.unusedVariables false
namespace Go.Proofs.YtblhmeidbjigaabGreatDoor
open Go.RowKit

section
variable {P : Program} {md : Region.Mode} {ops : Array Oper} {w : World}

theorem last_such {n : Nat} (p : Nat → Prop) : ∀ (d i : Nat), n - i = d → i < n → p i → ∃ m, m < n ∧ p m ∧ ∀ j, m < j → j < n → ¬ p j := by
  intro d
  induction d using Nat.strongRecOn with
  | _ d ih =>
    intro i hd hi hp
    by_cases h : ∃ j, i < j ∧ j < n ∧ p j
    · obtain ⟨j, h1, h2, h3⟩ := h
      exact ih (n - j) (by omega) j rfl h2 h3
    · exact ⟨i, hi, hp, fun j h1 h2 h3 => h ⟨j, h1, h2, h3⟩⟩

/-- Each of the operations 1 to n - 1 is waited for by a later one, up to number n. -/
def sink1 (md : Region.Mode) (ops : Array Oper) (n : Nat) : Bool :=
  (List.range n).all fun i => decide (i = 0) || (List.range (n + 1)).any fun j => decide (i < j) && Region.waitsFor md ops j i

/-- While one of the head is open (the first is done), none of the tail may come up. -/
theorem late {n : Nat} {listed : Array Bool} (hs : sink1 md ops n = true) (hc : Region.chainB md ops n = true) (inv : HeadInv md ops n listed) (hz : listed.getD 0 false = true)
    {i : Nat} (hi : i < n) (hu : listed.getD i true = false) {t : Nat} (ht : n ≤ t) : t ∉ Region.ready md ops listed := by
  obtain ⟨m, hm, hpm, hlast⟩ := last_such (n := n) (fun k => listed.getD k true = false) _ i rfl hi hu
  have hm0 : m ≠ 0 := fun e => by
    subst e
    have := getD_both hpm
    rw [hz] at this; cases this
  have h1 := List.all_eq_true.1 hs m (List.mem_range.2 hm)
  rw [Bool.or_eq_true] at h1
  rcases h1 with h1 | h1
  · exact absurd (of_decide_eq_true h1) hm0
  obtain ⟨j, hj, hj2⟩ := List.any_eq_true.1 h1
  rw [Bool.and_eq_true] at hj2
  have hmj : m < j := of_decide_eq_true hj2.1
  obtain ⟨oj, hoj, e, he, hb, hon⟩ := Region.waitsFor_spec hj2.2
  have hjn : j ≤ n := by have := List.mem_range.1 hj; omega
  intro hr
  obtain ⟨_, ot, hot, hall⟩ := mem_ready.1 hr
  have htl : t < ops.size := (Array.getElem?_eq_some_iff.1 hot).1
  have hjn' : j = n := by
    by_cases q : j = n
    · exact q
    · exfalso
      have hjs : j < listed.size := by rw [inv.size]; omega
      have hne := hlast j hmj (by omega)
      have hlj : listed.getD j false = true := by
        cases hq : listed.getD j false with
        | true => rfl
        | false => exact absurd (getD_in hjs hq) hne
      have := inv.closed j oj hoj hlj e he hb
      rw [hon, getD_both hpm] at this; cases this
  by_cases q : t = n
  · have e1 : oj = ot := by
      rw [hjn', ← q] at hoj
      exact Option.some.inj (hoj.symm.trans hot)
    rw [e1] at he
    have := hall e he hb
    rw [hon, getD_both hpm] at this; cases this
  · have h2 := List.all_eq_true.1 hc t (List.mem_range.2 htl)
    rw [Bool.or_eq_true] at h2
    rcases h2 with h2 | h2
    · have := of_decide_eq_true h2; omega
    · obtain ⟨o', ho', e', he', hb', hon'⟩ := Region.waitsFor_spec h2
      rw [Option.some.inj (ho'.symm.trans hot)] at he'
      have := hall e' he' hb'
      rw [hon', getD_both (inv.tail (t - 1) (by omega) (by omega))] at this; cases this

/-- An operation of the head that may come up, and yields in this world, may be taken first. -/
theorem head_first {n i : Nat} {oi : Oper} {v : Value} {L : Array Bool → Act → Prop} (hi : ops[i]? = some oi) (hsel : ∀ (j : Nat) (o : Oper) cs b, ops[j]? = some o → o.op ≠ .select cs b)
    (hs : sink1 md ops n = true) (hc : Region.chainB md ops n = true) (hin : i < n) (hdone : ∀ listed a, L listed a → ∀ j ∈ Region.ready md ops listed, n ≤ j) (f : Nat) :
    ∀ (listed : Array Bool) (a : Act), HeadInv md ops n listed → listed.getD 0 false = true →
      (∀ j oj, ops[j]? = some oj → j ≠ i → listed.getD j true = false → (∀ e ∈ oj.after, Region.binds md e = true → e.on ≠ i) → oi.apart ops oj = true) →
      i ∈ Region.ready md ops listed → YieldsAt P ops w oi v a →
      wpAnyL P md ops w n L f (listed.setIfInBounds i true) (a.put oi.dst v) → wpAnyL P md ops w n L (f + 1) listed a := by
  induction f with
  | zero =>
    intro listed a inv hz _ hr hy H
    refine ⟨fun h => (by rw [h] at hr; cases hr), fun j hj => ?_⟩
    have hjn : j < n := Nat.lt_of_not_le fun h => late hs hc inv hz hin (mem_ready.1 hr).1 h hj
    by_cases q : j = i
    · rw [q]; exact ⟨hin, hy.stOp hi H⟩
    · have := hdone _ _ H j (ready_mono hj q); omega
  | succ f ih =>
    intro listed a inv hz hfree hr hy H
    refine ⟨fun h => (by rw [h] at hr; cases hr), fun j hj => ?_⟩
    have hui := (mem_ready.1 hr).1
    have hjn : j < n := Nat.lt_of_not_le fun h => late hs hc inv hz hin hui h hj
    refine ⟨hjn, ?_⟩
    by_cases q : j = i
    · rw [q]; exact hy.stOp hi H
    · obtain ⟨huj, oj, hoj, hall⟩ := mem_ready.1 hj
      have hno : ∀ e ∈ oj.after, Region.binds md e = true → e.on ≠ i := fun e he hb hon => by
        have := hall e he hb
        rw [hon, getD_both hui] at this; cases this
      have step := stOp_put hoj (hfree j oj hoj q huj hno) (fun cs b => hsel i oi cs b hi) (fun cs b => hsel j oj cs b hoj) hy (H.2 j (ready_mono hj q)).2
      refine stOp_mono (fun a' h3 => ?_) step
      refine ih _ a' (inv.set hj hjn) (getD_set_true hz) (fun k ok hk hki huk hnk => hfree k ok hk hki ?_ hnk) (ready_mono hr (Ne.symm q)) h3.1 ?_
      · by_cases e : j = k
        · rw [← e]; exact huj
        · rwa [getD_set_ne true e] at huk
      · rw [Array.setIfInBounds_comm _ _ q]; exact h3.2

theorem head_lex {n g : Nat} {Lq : Act → Prop} (hsel : Region.noSelect ops = true) (hs : sink1 md ops n = true) (hc : Region.chainB md ops n = true) (l : List Oper) :
    ∀ (k : Nat) (listed : Array Bool) (a : Act), (∀ j, j < l.length → l[j]? = ops[k + j]?) → k + l.length = n → HeadInv md ops n listed → listed.getD 0 false = true →
      Region.lexHead md ops g l.length k listed = true → wpStill P ops w Lq l a →
      wpAnyL P md ops w n (fun listed' a' => Region.seqB md ops g n listed' = true ∧ Lq a') l.length listed a := by
  induction l with
  | nil =>
    intro k listed a _ hk _ _ hB h
    have : k = n := by simpa using hk
    rw [← this]
    exact ⟨hB, h⟩
  | cons o l ih =>
    intro k listed a hl hk inv hz hB h
    have ho : ops[k]? = some o := by
      have := hl 0 (Nat.zero_lt_succ _)
      simpa using this.symm
    simp only [List.length_cons] at hk hB ⊢
    unfold Region.lexHead at hB
    simp only [Bool.and_eq_true] at hB
    have hkn : k < n := by omega
    have hr : k ∈ Region.ready md ops listed := by simpa using hB.1.1
    have hst : stOp P ops w k (wpStill P ops w Lq l) a := by unfold stOp; rw [ho]; exact h
    obtain ⟨v, hy, hK⟩ := yieldsAt_of_stOp ho hst
    refine head_first ho (Region.noSelect_spec hsel) hs hc hkn (fun _ _ hL => seqB_ready hL.1) _ listed a inv hz (Region.free_spec ho hB.1.2) hr hy ?_
    refine ih (k + 1) _ _ (fun j hj => ?_) (by omega) (inv.set hr hkn) (getD_set_true hz) hB.2 hK
    have := hl (j + 1) (by simp; omega)
    rw [List.getElem?_cons_succ] at this
    rw [this]; congr 1; omega

/-- What is asked of such a region. -/
def moveTailB (ops : Array Oper) (n : Nat) : Bool :=
  Region.noSelect ops && decide (1 ≤ n) && decide (n < ops.size) && Region.free .any ops (Array.replicate ops.size false) 0 && (Region.ready .any ops (Array.replicate ops.size false)).contains 0 && sink1 .any ops n && Region.chainB .any ops n &&
    Region.lexHead .any ops (ops.size - n) (n - 1) 1 ((Array.replicate ops.size false).setIfInBounds 0 true)

theorem wp_move_tail {id : Nat} {Q : Exit → Act → World → Prop} {a : Act} {w : World} {o : Oper} {l : List Oper} (n : Nat) (v : Value) (hm : P.follows .mixedOrders = true) (hB : moveTailB (o :: l).toArray n = true)
    (hQ : ∀ c a w, Q (.panic c) (a.put o.dst v) w → Q (.panic c) a w) (hy : Yields P (o :: l).toArray o v a)
    (h : wpStill P (o :: l).toArray w.drew (fun a' => wpList P (o :: l).toArray Q ((o :: l).drop n) a' w.drew) (l.take (n - 1)) (a.put o.dst v)) : (Code.region id (o :: l).toArray true).wp P Q a w := by
  simp only [moveTailB, Bool.and_eq_true, decide_eq_true_eq] at hB
  obtain ⟨⟨⟨⟨⟨⟨⟨hsel, h1⟩, hn⟩, hfree⟩, hready⟩, hs⟩, hc⟩, hlex⟩ := hB
  refine wp_region_any hm ?_
  have hsz : (o :: l).toArray.size = l.length + 1 := by simp
  have hnl : n ≤ l.length := by rw [hsz] at hn; omega
  have hl0 : 0 < (o :: l).toArray.size := by omega
  have inv : HeadInv .any (o :: l).toArray n ((Array.replicate (o :: l).toArray.size false).setIfInBounds 0 true) := by
    have inv0 : HeadInv .any (o :: l).toArray n (Array.replicate (o :: l).toArray.size false) :=
      ⟨by simp, fun j oj _ hl => (by rw [getD_replicate_false] at hl; cases hl), fun t _ ht => getD_in (by simpa using ht) (getD_replicate_false _ _)⟩
    exact inv0.set (by simpa using hready) (by omega)
  have hz : ((Array.replicate (o :: l).toArray.size false).setIfInBounds 0 true).getD 0 false = true := by simp
  have htl : (l.take (n - 1)).length = n - 1 := by rw [List.length_take]; omega
  have H := head_lex (P := P) (md := .any) (w := w.drew) (g := (o :: l).toArray.size - n) hsel hs hc (l.take (n - 1)) 1 _ (a.put o.dst v) (fun j hj => by
    rw [htl] at hj
    rw [Nat.add_comm 1 j]
    simp [List.getElem?_take, hj]) (by rw [htl]; omega) inv hz (by rw [htl]; exact hlex) h
  have := wpAny_of_head (Q' := Q) (g := (o :: l).toArray.size - n) (fun listed a' hL => by
    have := wpAny_of_seq (md := .any) (Q' := Q) ((o :: l).drop n) n listed a' w.drew (fun j => by simp [List.getElem?_drop]) (by rw [show ((o :: l).drop n).length = (o :: l).toArray.size - n by simp]; exact hL.1) hL.2
    rwa [show ((o :: l).drop n).length = (o :: l).toArray.size - n by simp] at this) _ _ _ H
  rw [htl] at this
  have key : wpAny P .any (o :: l).toArray Q ((n - 1) + ((o :: l).toArray.size - n) + 1) (Array.replicate (o :: l).toArray.size false) a w.drew :=
    wpAny_take (i := 0) (oi := o) (v := v) (by simp) hsel hfree (by simpa using hready) hQ hy this
  rw [show (n - 1) + ((o :: l).toArray.size - n) + 1 = (o :: l).toArray.size by omega] at key
  exact key
end

end Go.Proofs.YtblhmeidbjigaabGreatDoor
