/- Package compare: do the pairs hold? -/
import Derived.Test.YtblhmeidbjigaaaGreatDoorRows
import Derived.WalkKit
import Derived.WalkSpells
import Derived.WalkLawsBesides
import Derived.Laws.BytesArg
import Derived.Deep.QuietTactic
import Derived.BigQuiet
import Derived.Deep.RegionHeld3
import Derived.Lib.ItoaNum
import Derived.Lib.ItoaLen
import Derived.OpenShut
import Derived.Maps.AppendAt
import Derived.Shelf.Strconv.Itoa3
import Derived.Shelf.Lay
import Derived.Ground.NamesProg
import Derived.Lib.SmallJoins
import Derived.Lib.Hide
import Derived.StillTailTactics
import Derived.Test.YtblhmeidbjigaaaGreatDoorCCpKToVCmBRenamed

set_option linter.unusedSimpArgs false
set_option linter.unusedVariables false
namespace Go.Proofs.YtblhmeidbjigaaaGreatDoor
open Go.RowKit

/-- Terms side by side that are read: by place a term, its parts' list a slice. -/
structure Tms (w : World) (P n : Nat) (was : Int → TD) : Prop where
  ex : ∃ f ps, PlAt w P n f ps ∧ (∀ i, i < n → f i = was (i : Int)) ∧ (∀ i, i < n → ∃ o a c, ps i = .slice o a c)

theorem Tms.keep {w w' : World} {P n : Nat} {was : Int → TD} (h : Tms w P n was) (hb : Below w.heap.size w w') : Tms w' P n was :=
  let ⟨f, ps, h1, h2, h3⟩ := h.ex
  ⟨f, ps, h1.keep hb, h2, h3⟩

theorem Tms.at {w : World} {P n : Nat} {was : Int → TD} (h : Tms w P n was) {i : Nat} (hi : i < n) : ∃ o a c, ∀ j u, (tcells (was (i : Int)) (.slice o a c))[j]? = some u → w.cell? ⟨P, i * 5 + j, none⟩ = some u := by
  obtain ⟨f, ps, h1, h2, h3⟩ := h.ex
  obtain ⟨o, a, c, hp⟩ := h3 i hi
  exact ⟨o, a, c, fun j u hj => h1.cell hi (by rw [h2 i hi, hp]; exact hj)⟩

set_option maxRecDepth 100000 in
set_option maxHeartbeats 4000000 in
theorem vKept_any {P1 n1 P2 n2 : Nat} {was1 was2 : Int → TD} (cap1 : Nat) (ck1 cv1 cs1 rg1 dt1 : Int) (co1 mo1 : Option Addr) (cn1 cc1 mn1 mc1 : Nat) (ct1 : ByteArray) (big1 : Bool) (cap2 : Nat) (ck2 cv2 cs2 rg2 dt2 : Int) (co2 mo2 : Option Addr) (cn2 cc2 mn2 mc2 : Nat) (ct2 : ByteArray) (big2 : Bool) (qv : Value) (qs : List PairD) (w : World) (h1 : Tms w P1 n1 was1) (h2 : Tms w P2 n2 was2) (hq : RdPairs w qv qs) (hn1 : n1 ≤ 1000) (hn2 : n2 ≤ 1000)
    (hb : ∀ x ∈ qs, (0 ≤ x.reg ∧ x.reg < n1) ∧ (0 ≤ x.place ∧ x.place < n2)) (hf1 : ∀ i : Int, 0 ≤ i → i < n1 → (was1 i).fine) (hf2 : ∀ i : Int, 0 ≤ i → i < n2 → (was2 i).fine) :
    Calls Tryz.prog 181 #[.agg #[.slice (some ⟨P1, 0, none⟩) n1 cap1, .int .i64 ck1, .int .i64 cv1, .slice co1 cn1 cc1, .int .i64 cs1, .string ct1, .slice mo1 mn1 mc1, .bool big1, .int .i64 rg1, .int .i64 dt1], .agg #[.slice (some ⟨P2, 0, none⟩) n2 cap2, .int .i64 ck2, .int .i64 cv2, .slice co2 cn2 cc2, .int .i64 cs2, .string ct2, .slice mo2 mn2 mc2, .bool big2, .int .i64 rg2, .int .i64 dt2], qv] w fun e w' => ∃ z, e = .returned (.bool z) ∧ (z = true ↔ ∀ x ∈ qs, was1 x.reg = was2 x.place) ∧ Below w.heap.size w w' := by
  obtain ⟨qo, qc, rfl, hql, hqs⟩ := id hq
  have b0 : Below w.heap.size w ((w.alloc (.cells #[.slice (some ⟨P1, 0, none⟩) n1 cap1, .int .i64 ck1, .int .i64 cv1, .slice co1 cn1 cc1, .int .i64 cs1, .string ct1, .slice mo1 mn1 mc1, .bool big1, .int .i64 rg1, .int .i64 dt1] 121)).alloc (.cells #[.slice (some ⟨P2, 0, none⟩) n2 cap2, .int .i64 ck2, .int .i64 cv2, .slice co2 cn2 cc2, .int .i64 cs2, .string ct2, .slice mo2 mn2 mc2, .bool big2, .int .i64 rg2, .int .i64 dt2] 121)) := ((Below.refl _ _).alloc (Nat.le_refl _) _).alloc (by simp) _
  have r1 : Row ((w.alloc (.cells #[.slice (some ⟨P1, 0, none⟩) n1 cap1, .int .i64 ck1, .int .i64 cv1, .slice co1 cn1 cc1, .int .i64 cs1, .string ct1, .slice mo1 mn1 mc1, .bool big1, .int .i64 rg1, .int .i64 dt1] 121)).alloc (.cells #[.slice (some ⟨P2, 0, none⟩) n2 cap2, .int .i64 ck2, .int .i64 cv2, .slice co2 cn2 cc2, .int .i64 cs2, .string ct2, .slice mo2 mn2 mc2, .bool big2, .int .i64 rg2, .int .i64 dt2] 121)) w.heap.size 121 [.slice (some ⟨P1, 0, none⟩) n1 cap1, .int .i64 ck1, .int .i64 cv1, .slice co1 cn1 cc1, .int .i64 cs1, .string ct1, .slice mo1 mn1 mc1, .bool big1, .int .i64 rg1, .int .i64 dt1] := Row.alloc (heap_alloc_new w _) _
  have r2 : Row ((w.alloc (.cells #[.slice (some ⟨P1, 0, none⟩) n1 cap1, .int .i64 ck1, .int .i64 cv1, .slice co1 cn1 cc1, .int .i64 cs1, .string ct1, .slice mo1 mn1 mc1, .bool big1, .int .i64 rg1, .int .i64 dt1] 121)).alloc (.cells #[.slice (some ⟨P2, 0, none⟩) n2 cap2, .int .i64 ck2, .int .i64 cv2, .slice co2 cn2 cc2, .int .i64 cs2, .string ct2, .slice mo2 mn2 mc2, .bool big2, .int .i64 rg2, .int .i64 dt2] 121)) (w.heap.size + 1) 121 [.slice (some ⟨P2, 0, none⟩) n2 cap2, .int .i64 ck2, .int .i64 cv2, .slice co2 cn2 cc2, .int .i64 cs2, .string ct2, .slice mo2 mn2 mc2, .bool big2, .int .i64 rg2, .int .i64 dt2] := heap_alloc2_new w _ _
  obtain ⟨W, hW⟩ : ∃ W, W = ((w.alloc (.cells #[.slice (some ⟨P1, 0, none⟩) n1 cap1, .int .i64 ck1, .int .i64 cv1, .slice co1 cn1 cc1, .int .i64 cs1, .string ct1, .slice mo1 mn1 mc1, .bool big1, .int .i64 rg1, .int .i64 dt1] 121)).alloc (.cells #[.slice (some ⟨P2, 0, none⟩) n2 cap2, .int .i64 ck2, .int .i64 cv2, .slice co2 cn2 cc2, .int .i64 cs2, .string ct2, .slice mo2 mn2 mc2, .bool big2, .int .i64 rg2, .int .i64 dt2] 121)) := ⟨_, rfl⟩
  rw [← hW] at b0 r1 r2
  have HWE := Lib.hid hW
  clear hW
  go_enter Tryz.func181, Tryz.ntmps181
  go_wp2
  rw [← HWE.out]
  clear HWE
  go_loopw [7] (fun i wr => ∃ (k : Nat), k ≤ qs.length ∧ i = .int .i64 k ∧ Below W.heap.size W wr ∧ Hid (∀ j, j < k → was1 (preg qs j) = was2 (pplace qs j)))
    (fun i _ => qs.length - (intOf i).toNat)
  case atStart => exact ⟨0, Nat.zero_le _, rfl, Below.refl _ _, fun j hj => by omega⟩
  case round =>
    obtain ⟨k, hk, rfl, hbel, hall⟩ := hrel
    have hbw : Below w.heap.size w wr := b0.trans (hbel.mono b0.size)
    by_cases hlt : k < qs.length
    · obtain ⟨⟨hr0, hr1⟩, hp0, hp1⟩ := hb (qs.getD k pz) (getD_mem' hlt)
      obtain ⟨a, hra⟩ := Int.eq_ofNat_of_zero_le hr0
      obtain ⟨d, hpd⟩ := Int.eq_ofNat_of_zero_le hp0
      have ha : a < n1 := by omega
      have hd : d < n2 := by omega
      have hra' : preg qs k = (a : Int) := hra
      have hpd' : pplace qs k = (d : Int) := hpd
      obtain ⟨b, off, rfl, g0, g1⟩ := hqs k hlt
      rw [hra'] at g0
      rw [hpd'] at g1
      obtain ⟨uo, un, uc, hu⟩ := h1.at ha
      obtain ⟨vo, vn, vc, hv⟩ := h2.at hd
      obtain ⟨u, hue⟩ : ∃ u, was1 (a : Int) = u := ⟨_, rfl⟩
      obtain ⟨v, hve⟩ : ∃ v, was2 (d : Int) = v := ⟨_, rfl⟩
      have fu : u.fine := by rw [← hue]; exact hf1 a (by omega) (by omega)
      have fv : v.fine := by rw [← hve]; exact hf2 d (by omega) (by omega)
      rw [hue] at hu
      rw [hve] at hv
      have y1 : ∀ V, Below wr.heap.size wr V → V.cell? ⟨w.heap.size, 0, none⟩ = some (.slice (some ⟨P1, 0, none⟩) n1 cap1) := fun V hV => cell_keep hV (cell_keep hbel (r1.cell (i := 0) rfl))
      have y2 : ∀ V, Below wr.heap.size wr V → V.cell? ⟨w.heap.size + 1, 0, none⟩ = some (.slice (some ⟨P2, 0, none⟩) n2 cap2) := fun V hV => cell_keep hV (cell_keep hbel (r2.cell (i := 0) rfl))
      have y3 : ∀ V, Below wr.heap.size wr V → V.cell? ⟨b, off + k * 2, none⟩ = some (.int .i64 a) := fun V hV => cell_keep hV (cell_keep hbw g0)
      have y4 : ∀ V, Below wr.heap.size wr V → V.cell? ⟨b, off + k * 2 + 1, none⟩ = some (.int .i64 d) := fun V hV => cell_keep hV (cell_keep hbw g1)
      have u0 : ∀ V, Below wr.heap.size wr V → V.cell? ⟨P1, a * 5, none⟩ = some (.int .i64 (ckind u)) := fun V hV => cell_keep hV (cell_keep hbw (hu 0 _ rfl))
      have u1 : ∀ V, Below wr.heap.size wr V → V.cell? ⟨P1, a * 5 + 1, none⟩ = some (.int .i64 (cval u)) := fun V hV => cell_keep hV (cell_keep hbw (hu 1 _ rfl))
      have u2 : ∀ V, Below wr.heap.size wr V → V.cell? ⟨P1, a * 5 + 2, none⟩ = some (.slice uo un uc) := fun V hV => cell_keep hV (cell_keep hbw (hu 2 _ rfl))
      have u3 : ∀ V, Below wr.heap.size wr V → V.cell? ⟨P1, a * 5 + 3, none⟩ = some (.int .i64 (u).size) := fun V hV => cell_keep hV (cell_keep hbw (hu 3 _ rfl))
      have u4 : ∀ V, Below wr.heap.size wr V → V.cell? ⟨P1, a * 5 + 4, none⟩ = some (.string (str (showT u))) := fun V hV => cell_keep hV (cell_keep hbw (hu 4 _ rfl))
      have v0 : ∀ V, Below wr.heap.size wr V → V.cell? ⟨P2, d * 5, none⟩ = some (.int .i64 (ckind v)) := fun V hV => cell_keep hV (cell_keep hbw (hv 0 _ rfl))
      have v1 : ∀ V, Below wr.heap.size wr V → V.cell? ⟨P2, d * 5 + 1, none⟩ = some (.int .i64 (cval v)) := fun V hV => cell_keep hV (cell_keep hbw (hv 1 _ rfl))
      have v2 : ∀ V, Below wr.heap.size wr V → V.cell? ⟨P2, d * 5 + 2, none⟩ = some (.slice vo vn vc) := fun V hV => cell_keep hV (cell_keep hbw (hv 2 _ rfl))
      have v3 : ∀ V, Below wr.heap.size wr V → V.cell? ⟨P2, d * 5 + 3, none⟩ = some (.int .i64 (v).size) := fun V hV => cell_keep hV (cell_keep hbw (hv 3 _ rfl))
      have v4 : ∀ V, Below wr.heap.size wr V → V.cell? ⟨P2, d * 5 + 4, none⟩ = some (.string (str (showT v))) := fun V hV => cell_keep hV (cell_keep hbw (hv 4 _ rfl))
      have hki : (0 : Int) ≤ (k : Int) := by omega
      have hkj : (k : Int) < (qs.length : Int) := by omega
      have hai : (0 : Int) ≤ (a : Int) := by omega
      have haj : (a : Int) < (n1 : Int) := by omega
      have hdi : (0 : Int) ≤ (d : Int) := by omega
      have hdj : (d : Int) < (n2 : Int) := by omega
      have k0 : Below wr.heap.size wr wr.drew := (Below.refl _ _).drew
      have q := cSame_any u v (.slice uo un uc) (.slice vo vn vc) fu fv wr.drew
      unfold termV at q
      have HBEL := Lib.hid hbel
      have HBW := Lib.hid hbw
      clear g0 g1 hu hv hqs hr0 hr1 hp0 hp1 hra hpd hbel hbw
      by_cases he : u = v
      · have hz : sameT u v = true := (sameT_iff u v).2 he
        have hall2 : Hid (∀ j, j < k + 1 → was1 (preg qs j) = was2 (pplace qs j)) := fun j hj => by
          by_cases e : j = k
          · rw [e, hra', hpd', hue, hve]; exact he
          · exact hall.out j (by omega)
        rw [hz] at q
        clear he hz hall hra' hpd' hue hve
        go_wp2
        go_region_held3 (fun V => Below wr.heap.size wr V) (first | with_reducible exact k0 | with_reducible exact b3) (first | (go_at_call 156; refine q.mono ?_; rintro e w2 ⟨rfl, b2⟩; have b3 : Below wr.heap.size wr w2 := k0.trans (b2.mono k0.size)))
        go_wp2
        go_roundw
        case rel => exact ⟨k + 1, by omega, by go_num, HBEL.out.trans (b3.mono HBEL.out.size), hall2⟩
        case measure => simp [intOf]; omega
      · have hz : sameT u v = false := sameT_ne he
        have HNO : Hid (¬ ∀ x ∈ qs, was1 x.reg = was2 x.place) := fun hA => he (by
          have := hA (qs.getD k pz) (getD_mem' hlt)
          rw [show (qs.getD k pz).reg = (a : Int) from hra', show (qs.getD k pz).place = (d : Int) from hpd', hue, hve] at this
          exact this)
        rw [hz] at q
        clear he hz hall hra' hpd' hue hve
        go_wp2
        go_region_held3 (fun V => Below wr.heap.size wr V) (first | with_reducible exact k0 | with_reducible exact b3) (first | (go_at_call 156; refine q.mono ?_; rintro e w2 ⟨rfl, b2⟩; have b3 : Below wr.heap.size wr w2 := k0.trans (b2.mono k0.size)))
        have HF := Lib.hid (HBW.out.trans (b3.mono HBW.out.size))
        clear q b2
        go_wp2
        (try simp only [Exit.inBlock, Exit.then])
        refine bodyPost_ret (v := .bool false) ?_ rfl ?_
        · simp [results, Tryz.results181, go_sem]
        · exact ⟨false, rfl, ⟨fun hq => (by cases hq), fun hA => absurd hA HNO.out⟩, HF.out⟩
    · obtain rfl : k = qs.length := by omega
      have HY : Hid (∀ x ∈ qs, was1 x.reg = was2 x.place) := fun x hx => by
        obtain ⟨j, hj, rfl⟩ := List.getElem_of_mem hx
        have := hall.out j hj
        simpa [preg, pplace, List.getD, hj] using this
      have HB := Lib.hid hbw
      clear hqs hall hbel hbw
      go_wp2
      go_ret
      exact ⟨true, rfl, ⟨fun _ => HY.out, fun _ => rfl⟩, HB.out⟩

end Go.Proofs.YtblhmeidbjigaaaGreatDoor

/- Package compare: keepPairs, goTogether. -/
set_option linter.unusedSimpArgs false
set_option linter.unusedVariables false
namespace Go.Proofs.YtblhmeidbjigaaaGreatDoor
open Go.RowKit

theorem getD_memI {l : List Int} {k : Nat} (h : k < l.length) : l.getD k 0 ∈ l := by simp [List.getD, h]

set_option maxRecDepth 100000 in
set_option maxHeartbeats 4000000 in
theorem vTogether_cps (a1 a2 a3 a4 b1 b2 b3 b4 : Int) (po qo ho : Option Addr) (pn pc qn qc hc : Nat) (h : List PingD) (lv rv : Value) (l m : List Int) (w : World) (hh : RdHint w (.slice ho h.length hc) h) (hl : RdWords w lv l) (hm : RdWords w rv m) (hb : ∀ d ∈ m, 0 ≤ d ∧ d < h.length) (Post : Ending → World → Prop)
    (hp : ∀ z w', (z = true ↔ ∀ i, i < l.length → i < m.length → hsrc h (m.getD i 0).toNat = l.getD i 0) → Below w.heap.size w w' → Post (.returned (.bool z)) w') :
    Calls Tryz.prog 158 #[.agg #[.int .i64 a1, .int .i64 a2, .int .i64 a3, .int .i64 a4, .slice po pn pc, .int .i64 b1, .int .i64 b2, .int .i64 b3, .int .i64 b4, .slice qo qn qc, .slice ho h.length hc], lv, rv] w Post := by
  obtain ⟨lo, lc, rfl, hll, hls⟩ := hl
  obtain ⟨ro, rc, rfl, hrl, hrs⟩ := hm
  obtain ⟨ho', hc', e0, hhl, hhs⟩ := hh
  simp only [Value.slice.injEq, true_and] at e0
  obtain ⟨rfl, rfl⟩ := e0
  have b0 : Below w.heap.size w (w.alloc (.cells #[.int .i64 a1, .int .i64 a2, .int .i64 a3, .int .i64 a4, .slice po pn pc, .int .i64 b1, .int .i64 b2, .int .i64 b3, .int .i64 b4, .slice qo qn qc, .slice ho h.length hc] 143)) := (Below.refl _ _).alloc (Nat.le_refl _) _
  have r1 : Row (w.alloc (.cells #[.int .i64 a1, .int .i64 a2, .int .i64 a3, .int .i64 a4, .slice po pn pc, .int .i64 b1, .int .i64 b2, .int .i64 b3, .int .i64 b4, .slice qo qn qc, .slice ho h.length hc] 143)) w.heap.size 143 [.int .i64 a1, .int .i64 a2, .int .i64 a3, .int .i64 a4, .slice po pn pc, .int .i64 b1, .int .i64 b2, .int .i64 b3, .int .i64 b4, .slice qo qn qc, .slice ho h.length hc] := heap_alloc_new w _
  obtain ⟨W, hW⟩ : ∃ W, W = (w.alloc (.cells #[.int .i64 a1, .int .i64 a2, .int .i64 a3, .int .i64 a4, .slice po pn pc, .int .i64 b1, .int .i64 b2, .int .i64 b3, .int .i64 b4, .slice qo qn qc, .slice ho h.length hc] 143)) := ⟨_, rfl⟩
  rw [← hW] at b0 r1
  have HWE := Lib.hid hW
  have HP := Lib.hid hp
  clear hW hp
  go_enter Tryz.func158, Tryz.ntmps158
  go_wp2
  rw [← HWE.out]
  clear HWE
  go_loopw [7] (fun i wr => ∃ (k : Nat), k ≤ l.length ∧ k ≤ m.length ∧ i = .int .i64 k ∧ Below W.heap.size W wr ∧ Hid (∀ j, j < k → hsrc h (m.getD j 0).toNat = l.getD j 0))
    (fun i _ => l.length - (intOf i).toNat)
  case atStart => exact ⟨0, Nat.zero_le _, Nat.zero_le _, rfl, Below.refl _ _, fun j hj => by omega⟩
  case round =>
    obtain ⟨k, hk, hk2, rfl, hbel, hall⟩ := hrel
    have hbw : Below w.heap.size w wr := b0.trans (hbel.mono b0.size)
    by_cases hlt : k < l.length
    · by_cases hlt2 : k < m.length
      · obtain ⟨hd0, hd1⟩ := hb (m.getD k 0) (getD_memI hlt2)
        obtain ⟨d, hd⟩ := Int.eq_ofNat_of_zero_le hd0
        obtain ⟨lb, loff, rfl, g0⟩ := hls k hlt
        obtain ⟨rb, roff, rfl, g1⟩ := hrs k hlt2
        rw [hd] at g1
        obtain ⟨hb', hoff, sv, rfl, g2, g3, _⟩ := hhs d (by omega)
        have y0 := cell_keep hbw g0
        have y1 := cell_keep hbw g1
        have y2 := cell_keep hbw g2
        have y3 := cell_keep hbel (r1.cell (i := 10) rfl)
        have hki : (0 : Int) ≤ (k : Int) := by omega
        have hkj : (k : Int) < (l.length : Int) := by omega
        have hkm : (k : Int) < (m.length : Int) := by omega
        have hdi : (0 : Int) ≤ (d : Int) := by omega
        have hdj : (d : Int) < (h.length : Int) := by omega
        have hbd := Lib.hid (fun n => below_drewN hbel n)
        have hbd2 := Lib.hid (fun n => below_drewN hbw n)
        have HS : Hid (hsrc h (m.getD k 0).toNat = hsrc h d) := by show _ = _; rw [hd]; rfl
        clear g0 g1 g2 g3 hls hrs hhs hd hd0 hd1 hbel hbw
        by_cases he : hsrc h d = l.getD k 0
        · have hall2 : Hid (∀ j, j < k + 1 → hsrc h (m.getD j 0).toNat = l.getD j 0) := fun j hj => by
            by_cases q : j = k
            · rw [q, HS.out]; exact he
            · exact hall.out j (by omega)
          have hq : (hsrc h d == l.getD k 0) = true := by simp [he]
          have HE := Lib.hid he
          clear he hall HS
          generalize l.getD k 0 = lx at *
          generalize hsrc h d = hx at *
          go_wp2
          go_quiet (fail)
          go_wp2
          go_roundw
          case rel => exact ⟨k + 1, by omega, by omega, by go_num, hbd.out _, hall2⟩
          case measure => simp [intOf]; omega
        · have HNO : Hid (¬ ∀ i, i < l.length → i < m.length → hsrc h (m.getD i 0).toNat = l.getD i 0) := fun hA => he (by rw [← HS.out]; exact hA k hlt hlt2)
          have hq : (hsrc h d == l.getD k 0) = false := by rw [beq_eq_false_iff_ne]; exact he
          clear he hall HS
          generalize l.getD k 0 = lx at *
          generalize hsrc h d = hx at *
          go_wp2
          go_quiet (fail)
          go_wp2
          exact HP.out false _ ⟨fun hq => (by cases hq), fun hA => absurd hA HNO.out⟩ (hbd2.out _)
      · have HY : Hid (∀ i, i < l.length → i < m.length → hsrc h (m.getD i 0).toNat = l.getD i 0) := fun i h1 h2 => hall.out i (by omega)
        have HF := Lib.hid (HP.out true _ ⟨fun _ => HY.out, fun _ => rfl⟩ hbw)
        have hkj : (k : Int) < (l.length : Int) := by omega
        have hkm : ¬ ((k : Int) < (m.length : Int)) := by omega
        clear hls hrs hhs hall hbel hbw
        go_wp2
        exact HF.out
    · have HY : Hid (∀ i, i < l.length → i < m.length → hsrc h (m.getD i 0).toNat = l.getD i 0) := fun i h1 h2 => hall.out i (by omega)
      have HF := Lib.hid (HP.out true _ ⟨fun _ => HY.out, fun _ => rfl⟩ hbw)
      have hkj : ¬ ((k : Int) < (l.length : Int)) := by omega
      clear hls hrs hhs hall hbel hbw
      go_wp2
      exact HF.out

set_option maxRecDepth 100000 in
set_option maxHeartbeats 4000000 in
theorem vKeeps_any (a1 a2 a3 a4 b1 b2 b3 b4 : Int) (po qo ho : Option Addr) (pn pc qn qc hc : Nat) {P1 n1 P2 n2 : Nat} {was1 was2 : Int → TD} (cap1 : Nat) (ck1 cv1 cs1 rg1 dt1 : Int) (co1 mo1 : Option Addr) (cn1 cc1 mn1 mc1 : Nat) (ct1 : ByteArray) (big1 : Bool) (cap2 : Nat) (ck2 cv2 cs2 rg2 dt2 : Int) (co2 mo2 : Option Addr) (cn2 cc2 mn2 mc2 : Nat) (ct2 : ByteArray) (big2 : Bool) (h : List PingD) (rv : Value) (m : List Int) (w : World) (hh : RdHint w (.slice ho h.length hc) h) (hm : RdWords w rv m) (hb : ∀ d ∈ m, 0 ≤ d ∧ d < h.length)
    (h1 : Tms w P1 n1 was1) (h2 : Tms w P2 n2 was2) (hn1 : n1 ≤ 1000) (hn2 : n2 ≤ 1000) (hbp : ∀ b, b < h.length → ∀ x ∈ hpairs h b, (0 ≤ x.reg ∧ x.reg < n1) ∧ (0 ≤ x.place ∧ x.place < n2)) (hf1 : ∀ i : Int, 0 ≤ i → i < n1 → (was1 i).fine) (hf2 : ∀ i : Int, 0 ≤ i → i < n2 → (was2 i).fine) :
    Calls Tryz.prog 159 #[.agg #[.int .i64 a1, .int .i64 a2, .int .i64 a3, .int .i64 a4, .slice po pn pc, .int .i64 b1, .int .i64 b2, .int .i64 b3, .int .i64 b4, .slice qo qn qc, .slice ho h.length hc], .agg #[.slice (some ⟨P1, 0, none⟩) n1 cap1, .int .i64 ck1, .int .i64 cv1, .slice co1 cn1 cc1, .int .i64 cs1, .string ct1, .slice mo1 mn1 mc1, .bool big1, .int .i64 rg1, .int .i64 dt1], .agg #[.slice (some ⟨P2, 0, none⟩) n2 cap2, .int .i64 ck2, .int .i64 cv2, .slice co2 cn2 cc2, .int .i64 cs2, .string ct2, .slice mo2 mn2 mc2, .bool big2, .int .i64 rg2, .int .i64 dt2], rv] w fun e w' => ∃ z, e = .returned (.bool z) ∧ (z = true ↔ ∀ d ∈ m, ∀ x ∈ hpairs h d.toNat, was1 x.reg = was2 x.place) ∧ Below w.heap.size w w' := by
  obtain ⟨ro, rc, rfl, hrl, hrs⟩ := hm
  obtain ⟨ho', hc', e0, hhl, hhs⟩ := hh
  simp only [Value.slice.injEq, true_and] at e0
  obtain ⟨rfl, rfl⟩ := e0
  have b0 : Below w.heap.size w (((w.alloc (.cells #[.int .i64 a1, .int .i64 a2, .int .i64 a3, .int .i64 a4, .slice po pn pc, .int .i64 b1, .int .i64 b2, .int .i64 b3, .int .i64 b4, .slice qo qn qc, .slice ho h.length hc] 143)).alloc (.cells #[.slice (some ⟨P1, 0, none⟩) n1 cap1, .int .i64 ck1, .int .i64 cv1, .slice co1 cn1 cc1, .int .i64 cs1, .string ct1, .slice mo1 mn1 mc1, .bool big1, .int .i64 rg1, .int .i64 dt1] 121)).alloc (.cells #[.slice (some ⟨P2, 0, none⟩) n2 cap2, .int .i64 ck2, .int .i64 cv2, .slice co2 cn2 cc2, .int .i64 cs2, .string ct2, .slice mo2 mn2 mc2, .bool big2, .int .i64 rg2, .int .i64 dt2] 121)) := (((Below.refl _ _).alloc (Nat.le_refl _) _).alloc (by simp) _).alloc (by simp; omega) _
  have r0 : Row (((w.alloc (.cells #[.int .i64 a1, .int .i64 a2, .int .i64 a3, .int .i64 a4, .slice po pn pc, .int .i64 b1, .int .i64 b2, .int .i64 b3, .int .i64 b4, .slice qo qn qc, .slice ho h.length hc] 143)).alloc (.cells #[.slice (some ⟨P1, 0, none⟩) n1 cap1, .int .i64 ck1, .int .i64 cv1, .slice co1 cn1 cc1, .int .i64 cs1, .string ct1, .slice mo1 mn1 mc1, .bool big1, .int .i64 rg1, .int .i64 dt1] 121)).alloc (.cells #[.slice (some ⟨P2, 0, none⟩) n2 cap2, .int .i64 ck2, .int .i64 cv2, .slice co2 cn2 cc2, .int .i64 cs2, .string ct2, .slice mo2 mn2 mc2, .bool big2, .int .i64 rg2, .int .i64 dt2] 121)) w.heap.size 143 [.int .i64 a1, .int .i64 a2, .int .i64 a3, .int .i64 a4, .slice po pn pc, .int .i64 b1, .int .i64 b2, .int .i64 b3, .int .i64 b4, .slice qo qn qc, .slice ho h.length hc] := Row.alloc (Row.alloc (heap_alloc_new w _) _) _
  have r1 : Row (((w.alloc (.cells #[.int .i64 a1, .int .i64 a2, .int .i64 a3, .int .i64 a4, .slice po pn pc, .int .i64 b1, .int .i64 b2, .int .i64 b3, .int .i64 b4, .slice qo qn qc, .slice ho h.length hc] 143)).alloc (.cells #[.slice (some ⟨P1, 0, none⟩) n1 cap1, .int .i64 ck1, .int .i64 cv1, .slice co1 cn1 cc1, .int .i64 cs1, .string ct1, .slice mo1 mn1 mc1, .bool big1, .int .i64 rg1, .int .i64 dt1] 121)).alloc (.cells #[.slice (some ⟨P2, 0, none⟩) n2 cap2, .int .i64 ck2, .int .i64 cv2, .slice co2 cn2 cc2, .int .i64 cs2, .string ct2, .slice mo2 mn2 mc2, .bool big2, .int .i64 rg2, .int .i64 dt2] 121)) (w.heap.size + 1) 121 [.slice (some ⟨P1, 0, none⟩) n1 cap1, .int .i64 ck1, .int .i64 cv1, .slice co1 cn1 cc1, .int .i64 cs1, .string ct1, .slice mo1 mn1 mc1, .bool big1, .int .i64 rg1, .int .i64 dt1] := Row.alloc (heap_alloc2_new w _ _) _
  have r2 : Row (((w.alloc (.cells #[.int .i64 a1, .int .i64 a2, .int .i64 a3, .int .i64 a4, .slice po pn pc, .int .i64 b1, .int .i64 b2, .int .i64 b3, .int .i64 b4, .slice qo qn qc, .slice ho h.length hc] 143)).alloc (.cells #[.slice (some ⟨P1, 0, none⟩) n1 cap1, .int .i64 ck1, .int .i64 cv1, .slice co1 cn1 cc1, .int .i64 cs1, .string ct1, .slice mo1 mn1 mc1, .bool big1, .int .i64 rg1, .int .i64 dt1] 121)).alloc (.cells #[.slice (some ⟨P2, 0, none⟩) n2 cap2, .int .i64 ck2, .int .i64 cv2, .slice co2 cn2 cc2, .int .i64 cs2, .string ct2, .slice mo2 mn2 mc2, .bool big2, .int .i64 rg2, .int .i64 dt2] 121)) (w.heap.size + 1 + 1) 121 [.slice (some ⟨P2, 0, none⟩) n2 cap2, .int .i64 ck2, .int .i64 cv2, .slice co2 cn2 cc2, .int .i64 cs2, .string ct2, .slice mo2 mn2 mc2, .bool big2, .int .i64 rg2, .int .i64 dt2] := by
    have := heap_alloc_new ((w.alloc (.cells #[.int .i64 a1, .int .i64 a2, .int .i64 a3, .int .i64 a4, .slice po pn pc, .int .i64 b1, .int .i64 b2, .int .i64 b3, .int .i64 b4, .slice qo qn qc, .slice ho h.length hc] 143)).alloc (.cells #[.slice (some ⟨P1, 0, none⟩) n1 cap1, .int .i64 ck1, .int .i64 cv1, .slice co1 cn1 cc1, .int .i64 cs1, .string ct1, .slice mo1 mn1 mc1, .bool big1, .int .i64 rg1, .int .i64 dt1] 121)) (.cells #[.slice (some ⟨P2, 0, none⟩) n2 cap2, .int .i64 ck2, .int .i64 cv2, .slice co2 cn2 cc2, .int .i64 cs2, .string ct2, .slice mo2 mn2 mc2, .bool big2, .int .i64 rg2, .int .i64 dt2] 121)
    simp only [World.size_alloc] at this
    exact this
  obtain ⟨W, hW⟩ : ∃ W, W = (((w.alloc (.cells #[.int .i64 a1, .int .i64 a2, .int .i64 a3, .int .i64 a4, .slice po pn pc, .int .i64 b1, .int .i64 b2, .int .i64 b3, .int .i64 b4, .slice qo qn qc, .slice ho h.length hc] 143)).alloc (.cells #[.slice (some ⟨P1, 0, none⟩) n1 cap1, .int .i64 ck1, .int .i64 cv1, .slice co1 cn1 cc1, .int .i64 cs1, .string ct1, .slice mo1 mn1 mc1, .bool big1, .int .i64 rg1, .int .i64 dt1] 121)).alloc (.cells #[.slice (some ⟨P2, 0, none⟩) n2 cap2, .int .i64 ck2, .int .i64 cv2, .slice co2 cn2 cc2, .int .i64 cs2, .string ct2, .slice mo2 mn2 mc2, .bool big2, .int .i64 rg2, .int .i64 dt2] 121)) := ⟨_, rfl⟩
  rw [← hW] at b0 r0 r1 r2
  have HWE := Lib.hid hW
  clear hW
  go_enter Tryz.func159, Tryz.ntmps159
  go_wp2
  rw [← HWE.out]
  clear HWE
  go_loopw [9] (fun i wr => ∃ (k : Nat), k ≤ m.length ∧ i = .int .i64 k ∧ Below W.heap.size W wr ∧ Hid (∀ j, j < k → ∀ x ∈ hpairs h (m.getD j 0).toNat, was1 x.reg = was2 x.place))
    (fun i _ => m.length - (intOf i).toNat)
  case atStart => exact ⟨0, Nat.zero_le _, rfl, Below.refl _ _, fun j hj => by omega⟩
  case round =>
    obtain ⟨k, hk, rfl, hbel, hall⟩ := hrel
    have hbw : Below w.heap.size w wr := b0.trans (hbel.mono b0.size)
    by_cases hlt : k < m.length
    · obtain ⟨hd0, hd1⟩ := hb (m.getD k 0) (getD_memI hlt)
      obtain ⟨d, hd⟩ := Int.eq_ofNat_of_zero_le hd0
      obtain ⟨rb, roff, rfl, g1⟩ := hrs k hlt
      rw [hd] at g1
      obtain ⟨hb', hoff, sv, rfl, g2, g3, g4⟩ := hhs d (by omega)
      obtain ⟨so, sc, hsv, _, _⟩ := id g4
      have k0 : Below wr.heap.size wr wr.drew := (Below.refl _ _).drew
      have hbd : Below w.heap.size w wr.drew := hbw.trans (k0.mono hbw.size)
      have q := vKept_any (was1 := was1) (was2 := was2) cap1 ck1 cv1 cs1 rg1 dt1 co1 mo1 cn1 cc1 mn1 mc1 ct1 big1 cap2 ck2 cv2 cs2 rg2 dt2 co2 mo2 cn2 cc2 mn2 mc2 ct2 big2 sv (hpairs h d) wr.drew (h1.keep hbd) (h2.keep hbd) (g4.keep hbd) hn1 hn2 (hbp d (by omega)) hf1 hf2
      have y1 : ∀ V, Below wr.heap.size wr V → V.cell? ⟨rb, roff + k, none⟩ = some (.int .i64 d) := fun V hV => cell_keep hV (cell_keep hbw g1)
      have y3 : ∀ V, Below wr.heap.size wr V → V.cell? ⟨hb', hoff + d * 2 + 1, none⟩ = some sv := fun V hV => cell_keep hV (cell_keep hbw g3)
      have y4 : ∀ V, Below wr.heap.size wr V → V.cell? ⟨w.heap.size, 10, none⟩ = some (.slice (some ⟨hb', hoff, none⟩) h.length hc) := fun V hV => cell_keep hV (cell_keep hbel (r0.cell (i := 10) rfl))
      subst hsv
      have c0 := fun V (hV : Below wr.heap.size wr V) => cell_keep hV (cell_keep hbel (r1.cell (i := 0) rfl))
      have d0 := fun V (hV : Below wr.heap.size wr V) => cell_keep hV (cell_keep hbel (r2.cell (i := 0) rfl))
      have c1 := fun V (hV : Below wr.heap.size wr V) => cell_keep hV (cell_keep hbel (r1.cell (i := 1) rfl))
      have d1 := fun V (hV : Below wr.heap.size wr V) => cell_keep hV (cell_keep hbel (r2.cell (i := 1) rfl))
      have c2 := fun V (hV : Below wr.heap.size wr V) => cell_keep hV (cell_keep hbel (r1.cell (i := 2) rfl))
      have d2 := fun V (hV : Below wr.heap.size wr V) => cell_keep hV (cell_keep hbel (r2.cell (i := 2) rfl))
      have c3 := fun V (hV : Below wr.heap.size wr V) => cell_keep hV (cell_keep hbel (r1.cell (i := 3) rfl))
      have d3 := fun V (hV : Below wr.heap.size wr V) => cell_keep hV (cell_keep hbel (r2.cell (i := 3) rfl))
      have c4 := fun V (hV : Below wr.heap.size wr V) => cell_keep hV (cell_keep hbel (r1.cell (i := 4) rfl))
      have d4 := fun V (hV : Below wr.heap.size wr V) => cell_keep hV (cell_keep hbel (r2.cell (i := 4) rfl))
      have c5 := fun V (hV : Below wr.heap.size wr V) => cell_keep hV (cell_keep hbel (r1.cell (i := 5) rfl))
      have d5 := fun V (hV : Below wr.heap.size wr V) => cell_keep hV (cell_keep hbel (r2.cell (i := 5) rfl))
      have c6 := fun V (hV : Below wr.heap.size wr V) => cell_keep hV (cell_keep hbel (r1.cell (i := 6) rfl))
      have d6 := fun V (hV : Below wr.heap.size wr V) => cell_keep hV (cell_keep hbel (r2.cell (i := 6) rfl))
      have c7 := fun V (hV : Below wr.heap.size wr V) => cell_keep hV (cell_keep hbel (r1.cell (i := 7) rfl))
      have d7 := fun V (hV : Below wr.heap.size wr V) => cell_keep hV (cell_keep hbel (r2.cell (i := 7) rfl))
      have c8 := fun V (hV : Below wr.heap.size wr V) => cell_keep hV (cell_keep hbel (r1.cell (i := 8) rfl))
      have d8 := fun V (hV : Below wr.heap.size wr V) => cell_keep hV (cell_keep hbel (r2.cell (i := 8) rfl))
      have c9 := fun V (hV : Below wr.heap.size wr V) => cell_keep hV (cell_keep hbel (r1.cell (i := 9) rfl))
      have d9 := fun V (hV : Below wr.heap.size wr V) => cell_keep hV (cell_keep hbel (r2.cell (i := 9) rfl))
      have hki : (0 : Int) ≤ (k : Int) := by omega
      have hkm : (k : Int) < (m.length : Int) := by omega
      have hdi : (0 : Int) ≤ (d : Int) := by omega
      have hdj : (d : Int) < (h.length : Int) := by omega
      have HBEL := Lib.hid hbel
      have HBW := Lib.hid hbw
      have HS : Hid (hpairs h (m.getD k 0).toNat = hpairs h d) := by show _ = _; rw [hd]; rfl
      clear g1 g2 g3 g4 hrs hhs hd hd0 hd1 hbel hbw hbd
      generalize (hpairs h d).length = sn at *
      go_wp2
      go_region_held3 (fun V => Below wr.heap.size wr V) (first | with_reducible exact k0 | with_reducible exact b3) (first | (go_at_call 181; refine q.mono ?_; rintro e w2 ⟨z, rfl, hz, b2⟩; have b3 : Below wr.heap.size wr w2 := k0.trans (b2.mono k0.size)))
      have HZ := Lib.hid hz
      clear q b2 hz
      cases z with
      | true =>
        have hall2 : Hid (∀ j, j < k + 1 → ∀ x ∈ hpairs h (m.getD j 0).toNat, was1 x.reg = was2 x.place) := fun j hj => by
          by_cases e : j = k
          · rw [e, HS.out]; exact HZ.out.1 rfl
          · exact hall.out j (by omega)
        clear hall HS
        go_wp2
        go_roundw
        case rel => exact ⟨k + 1, by omega, by go_num, HBEL.out.trans (b3.mono HBEL.out.size), hall2⟩
        case measure => simp [intOf]; omega
      | false =>
        have HNO : Hid (¬ ∀ d ∈ m, ∀ x ∈ hpairs h d.toNat, was1 x.reg = was2 x.place) := fun hA => by
          have := hA (m.getD k 0) (getD_memI hlt)
          rw [HS.out] at this
          have := HZ.out.2 this
          cases this
        have HF := Lib.hid (HBW.out.trans (b3.mono HBW.out.size))
        clear hall HS
        go_wp2
        (try simp only [Exit.inBlock, Exit.then])
        refine bodyPost_ret (v := .bool false) ?_ rfl ?_
        · simp [results, Tryz.results159, go_sem]
        · exact ⟨false, rfl, ⟨fun hq => (by cases hq), fun hA => absurd hA HNO.out⟩, HF.out⟩
    · obtain rfl : k = m.length := by omega
      have HY : Hid (∀ d ∈ m, ∀ x ∈ hpairs h d.toNat, was1 x.reg = was2 x.place) := fun d hd => by
        obtain ⟨j, hj, rfl⟩ := List.getElem_of_mem hd
        have := hall.out j hj
        simpa [List.getD, hj] using this
      have HB := Lib.hid hbw
      clear hrs hhs hall hbel hbw
      go_wp2
      go_ret
      exact ⟨true, rfl, ⟨fun _ => HY.out, fun _ => rfl⟩, HB.out⟩

end Go.Proofs.YtblhmeidbjigaaaGreatDoor

/- Package compare: is the hint one for these programs, and does it hold at the start? -/
set_option linter.unusedSimpArgs false
set_option linter.unusedVariables false
namespace Go.Proofs.YtblhmeidbjigaaaGreatDoor
open Go.RowKit

set_option maxRecDepth 100000 in
set_option maxHeartbeats 4000000 in
theorem vFitP_cps (a1 a2 a3 a4 b1 b2 b3 b4 : Int) (po qo ho : Option Addr) (pn pc qn qc hn hc : Nat) (src : Int) (so : Option Addr) (sn sc : Nat) (qs : List PairD) (w : World) (hq : RdPairs w (.slice so sn sc) qs) (hadd : IntKind.i64.wrap (b2 + b4) = b2 + b4) (Post : Ending → World → Prop)
    (hp : ∀ z w', (z = true ↔ src < pn ∧ ∀ x ∈ qs, x.reg < a2 ∧ x.place < b2 + b4) → Below w.heap.size w w' → Post (.returned (.bool z)) w') :
    Calls Tryz.prog 128 #[.agg #[.int .i64 a1, .int .i64 a2, .int .i64 a3, .int .i64 a4, .slice po pn pc, .int .i64 b1, .int .i64 b2, .int .i64 b3, .int .i64 b4, .slice qo qn qc, .slice ho hn hc], .agg #[.int .i64 src, .slice so sn sc]] w Post := by
  obtain ⟨so', sc', e0, hql, hqs⟩ := hq
  simp only [Value.slice.injEq] at e0
  obtain ⟨rfl, rfl, rfl⟩ := e0
  have b0 : Below w.heap.size w ((w.alloc (.cells #[.int .i64 a1, .int .i64 a2, .int .i64 a3, .int .i64 a4, .slice po pn pc, .int .i64 b1, .int .i64 b2, .int .i64 b3, .int .i64 b4, .slice qo qn qc, .slice ho hn hc] 143)).alloc (.cells #[.int .i64 src, .slice so qs.length sc] 81)) := ((Below.refl _ _).alloc (Nat.le_refl _) _).alloc (by simp) _
  have r1 : Row ((w.alloc (.cells #[.int .i64 a1, .int .i64 a2, .int .i64 a3, .int .i64 a4, .slice po pn pc, .int .i64 b1, .int .i64 b2, .int .i64 b3, .int .i64 b4, .slice qo qn qc, .slice ho hn hc] 143)).alloc (.cells #[.int .i64 src, .slice so qs.length sc] 81)) w.heap.size 143 [.int .i64 a1, .int .i64 a2, .int .i64 a3, .int .i64 a4, .slice po pn pc, .int .i64 b1, .int .i64 b2, .int .i64 b3, .int .i64 b4, .slice qo qn qc, .slice ho hn hc] := Row.alloc (heap_alloc_new w _) _
  have r2 : Row ((w.alloc (.cells #[.int .i64 a1, .int .i64 a2, .int .i64 a3, .int .i64 a4, .slice po pn pc, .int .i64 b1, .int .i64 b2, .int .i64 b3, .int .i64 b4, .slice qo qn qc, .slice ho hn hc] 143)).alloc (.cells #[.int .i64 src, .slice so qs.length sc] 81)) (w.heap.size + 1) 81 [.int .i64 src, .slice so qs.length sc] := heap_alloc2_new w _ _
  have HP := Lib.hid hp
  clear hp
  by_cases hsrc : src < pn
  · obtain ⟨W, hW⟩ : ∃ W, W = ((w.alloc (.cells #[.int .i64 a1, .int .i64 a2, .int .i64 a3, .int .i64 a4, .slice po pn pc, .int .i64 b1, .int .i64 b2, .int .i64 b3, .int .i64 b4, .slice qo qn qc, .slice ho hn hc] 143)).alloc (.cells #[.int .i64 src, .slice so qs.length sc] 81)) := ⟨_, rfl⟩
    rw [← hW] at b0 r1 r2
    have HWE := Lib.hid hW
    clear hW
    go_enter Tryz.func128, Tryz.ntmps128
    go_wp2
    rw [← HWE.out]
    clear HWE
    go_loopw [5] (fun i wr => ∃ (k : Nat), k ≤ qs.length ∧ i = .int .i64 k ∧ Below W.heap.size W wr ∧ Hid (∀ j, j < k → preg qs j < a2 ∧ pplace qs j < b2 + b4))
      (fun i _ => qs.length - (intOf i).toNat)
    case atStart => exact ⟨0, Nat.zero_le _, rfl, Below.refl _ _, fun j hj => by omega⟩
    case round =>
      obtain ⟨k, hk, rfl, hbel, hall⟩ := hrel
      have hbw : Below w.heap.size w wr := b0.trans (hbel.mono b0.size)
      have x1 := cell_keep hbel (r2.cell (i := 1) rfl)
      by_cases hlt : k < qs.length
      · obtain ⟨b, off, rfl, g0, g1⟩ := hqs k hlt
        have y0 := cell_keep hbw g0
        have y1 := cell_keep hbw g1
        have c1 := cell_keep hbel (r1.cell (i := 1) rfl)
        have c6 := cell_keep hbel (r1.cell (i := 6) rfl)
        have c8 := cell_keep hbel (r1.cell (i := 8) rfl)
        have hki : (0 : Int) ≤ (k : Int) := by omega
        have hkj : (k : Int) < (qs.length : Int) := by omega
        have hbd := Lib.hid (fun n => below_drewN hbel n)
        have hbd2 := Lib.hid (fun n => below_drewN hbw n)
        have HM := Lib.hid (getD_mem' (d := pz) hlt)
        have HR : Hid ((qs.getD k pz).reg = preg qs k ∧ (qs.getD k pz).place = pplace qs k) := ⟨rfl, rfl⟩
        clear g0 g1 hqs hbel hbw r1 r2
        generalize preg qs k = rg at *
        generalize pplace qs k = pg at *
        by_cases h1 : rg < a2
        · have n1 : ¬ (a2 ≤ rg) := by omega
          by_cases h2 : pg < b2 + b4
          · have n2 : ¬ (b2 + b4 ≤ pg) := by omega
            have hall2 : Hid (∀ j, j < k + 1 → preg qs j < a2 ∧ pplace qs j < b2 + b4) := fun j hj => by
              by_cases e : j = k
              · rw [e]
                have q1 : preg qs k = rg := HR.out.1
                have q2 : pplace qs k = pg := HR.out.2
                rw [q1, q2]; exact ⟨h1, h2⟩
              · exact hall.out j (by omega)
            clear hall HR HM
            go_wp2
            go_quiet (fail)
            go_wp2
            go_roundw
            case rel => exact ⟨k + 1, by omega, by go_num, hbd.out _, hall2⟩
            case measure => simp [intOf]; omega
          · have n2 : b2 + b4 ≤ pg := by omega
            have HNO : Hid (¬ (src < pn ∧ ∀ x ∈ qs, x.reg < a2 ∧ x.place < b2 + b4)) := fun hA => h2 (by have := (hA.2 _ HM.out).2; rw [HR.out.2] at this; exact this)
            clear hall HR HM
            go_wp2
            go_quiet (fail)
            go_wp2
            exact HP.out false _ ⟨fun hq => (by cases hq), fun hA => absurd hA HNO.out⟩ (hbd2.out _)
        · have n1 : a2 ≤ rg := by omega
          have HNO : Hid (¬ (src < pn ∧ ∀ x ∈ qs, x.reg < a2 ∧ x.place < b2 + b4)) := fun hA => h1 (by have := (hA.2 _ HM.out).1; rw [HR.out.1] at this; exact this)
          clear hall HR HM
          go_wp2
          go_quiet (fail)
          go_wp2
          exact HP.out false _ ⟨fun hq => (by cases hq), fun hA => absurd hA HNO.out⟩ (hbd2.out _)
      · obtain rfl : k = qs.length := by omega
        have HY : Hid (src < pn ∧ ∀ x ∈ qs, x.reg < a2 ∧ x.place < b2 + b4) := ⟨hsrc, fun x hx => by
          obtain ⟨j, hj, rfl⟩ := List.getElem_of_mem hx
          have := hall.out j hj
          simpa [preg, pplace, List.getD, hj] using this⟩
        have HF := Lib.hid (HP.out true _ ⟨fun _ => HY.out, fun _ => rfl⟩ hbw)
        clear hqs hall hbel hbw
        go_wp2
        exact HF.out
  · have n1 : (pn : Int) ≤ src := by omega
    have HF := Lib.hid (HP.out false _ ⟨fun hq => (by cases hq), fun hA => absurd hA.1 hsrc⟩ b0)
    clear hqs r1 r2 b0 HP hsrc
    go_enter Tryz.func128, Tryz.ntmps128
    go_wp2
    exact HF.out

set_option maxRecDepth 100000 in
set_option maxHeartbeats 4000000 in
theorem vFit_cps (a1 a2 a3 a4 b1 b2 b3 b4 : Int) (po qo ho : Option Addr) (pn pc qn qc hn hc : Nat) (h : List PingD) (w : World) (hh : RdHint w (.slice ho hn hc) h) (hadd : IntKind.i64.wrap (b2 + b4) = b2 + b4) (Post : Ending → World → Prop)
    (hp : ∀ z w', (z = true ↔ h.length = qn ∧ ∀ b, b < h.length → hsrc h b < pn ∧ ∀ x ∈ hpairs h b, x.reg < a2 ∧ x.place < b2 + b4) → Below w.heap.size w w' → Post (.returned (.bool z)) w') :
    Calls Tryz.prog 85 #[.agg #[.int .i64 a1, .int .i64 a2, .int .i64 a3, .int .i64 a4, .slice po pn pc, .int .i64 b1, .int .i64 b2, .int .i64 b3, .int .i64 b4, .slice qo qn qc, .slice ho hn hc]] w Post := by
  obtain ⟨ho', hc', e0, hhl, hhs⟩ := hh
  simp only [Value.slice.injEq] at e0
  obtain ⟨rfl, rfl, rfl⟩ := e0
  have b0 : Below w.heap.size w (w.alloc (.cells #[.int .i64 a1, .int .i64 a2, .int .i64 a3, .int .i64 a4, .slice po pn pc, .int .i64 b1, .int .i64 b2, .int .i64 b3, .int .i64 b4, .slice qo qn qc, .slice ho h.length hc] 143)) := (Below.refl _ _).alloc (Nat.le_refl _) _
  have r1 : Row (w.alloc (.cells #[.int .i64 a1, .int .i64 a2, .int .i64 a3, .int .i64 a4, .slice po pn pc, .int .i64 b1, .int .i64 b2, .int .i64 b3, .int .i64 b4, .slice qo qn qc, .slice ho h.length hc] 143)) w.heap.size 143 [.int .i64 a1, .int .i64 a2, .int .i64 a3, .int .i64 a4, .slice po pn pc, .int .i64 b1, .int .i64 b2, .int .i64 b3, .int .i64 b4, .slice qo qn qc, .slice ho h.length hc] := heap_alloc_new w _
  have HP := Lib.hid hp
  clear hp
  by_cases hlen : h.length = qn
  · have hq : ((h.length : Int) == (qn : Int)) = true := by simp [hlen]
    have HLEN := Lib.hid hlen
    obtain ⟨W, hW⟩ : ∃ W, W = (w.alloc (.cells #[.int .i64 a1, .int .i64 a2, .int .i64 a3, .int .i64 a4, .slice po pn pc, .int .i64 b1, .int .i64 b2, .int .i64 b3, .int .i64 b4, .slice qo qn qc, .slice ho h.length hc] 143)) := ⟨_, rfl⟩
    rw [← hW] at b0 r1
    have HWE := Lib.hid hW
    clear hW hlen
    go_enter Tryz.func85, Tryz.ntmps85
    go_wp2
    rw [← HWE.out]
    clear HWE
    go_loopw [3] (fun i wr => ∃ (k : Nat), k ≤ h.length ∧ i = .int .i64 k ∧ Below W.heap.size W wr ∧ Hid (∀ b, b < k → hsrc h b < pn ∧ ∀ x ∈ hpairs h b, x.reg < a2 ∧ x.place < b2 + b4))
      (fun i _ => h.length - (intOf i).toNat)
    case atStart => exact ⟨0, Nat.zero_le _, rfl, Below.refl _ _, fun j hj => by omega⟩
    case round =>
      obtain ⟨k, hk, rfl, hbel, hall⟩ := hrel
      have hbw : Below w.heap.size w wr := b0.trans (hbel.mono b0.size)
      have x1 := cell_keep hbel (r1.cell (i := 10) rfl)
      by_cases hlt : k < h.length
      · obtain ⟨b, off, sv, rfl, g0, g1, g2⟩ := hhs k hlt
        obtain ⟨so, sc, hsv, _, _⟩ := id g2
        have k0 : Below wr.heap.size wr wr.drew := (Below.refl _ _).drew
        have hbd : Below w.heap.size w wr.drew := hbw.trans (k0.mono hbw.size)
        obtain ⟨sn, hsn⟩ : ∃ sn, sn = (hpairs h k).length := ⟨_, rfl⟩
        rw [← hsn] at hsv
        subst hsv
        have q := fun P' => vFitP_cps a1 a2 a3 a4 b1 b2 b3 b4 po qo (some ⟨b, off, none⟩) pn pc qn qc h.length hc (hsrc h k) so sn sc (hpairs h k) wr.drew (g2.keep hbd) hadd P'
        have c0 := fun V (hV : Below wr.heap.size wr V) => cell_keep hV (cell_keep hbel (r1.cell (i := 0) rfl))
        have c1 := fun V (hV : Below wr.heap.size wr V) => cell_keep hV (cell_keep hbel (r1.cell (i := 1) rfl))
        have c2 := fun V (hV : Below wr.heap.size wr V) => cell_keep hV (cell_keep hbel (r1.cell (i := 2) rfl))
        have c3 := fun V (hV : Below wr.heap.size wr V) => cell_keep hV (cell_keep hbel (r1.cell (i := 3) rfl))
        have c4 := fun V (hV : Below wr.heap.size wr V) => cell_keep hV (cell_keep hbel (r1.cell (i := 4) rfl))
        have c5 := fun V (hV : Below wr.heap.size wr V) => cell_keep hV (cell_keep hbel (r1.cell (i := 5) rfl))
        have c6 := fun V (hV : Below wr.heap.size wr V) => cell_keep hV (cell_keep hbel (r1.cell (i := 6) rfl))
        have c7 := fun V (hV : Below wr.heap.size wr V) => cell_keep hV (cell_keep hbel (r1.cell (i := 7) rfl))
        have c8 := fun V (hV : Below wr.heap.size wr V) => cell_keep hV (cell_keep hbel (r1.cell (i := 8) rfl))
        have c9 := fun V (hV : Below wr.heap.size wr V) => cell_keep hV (cell_keep hbel (r1.cell (i := 9) rfl))
        have c10 := fun V (hV : Below wr.heap.size wr V) => cell_keep hV (cell_keep hbel (r1.cell (i := 10) rfl))
        have y0 : ∀ V, Below wr.heap.size wr V → V.cell? ⟨b, off + k * 2, none⟩ = some (.int .i64 (hsrc h k)) := fun V hV => cell_keep hV (cell_keep hbw g0)
        have y1 : ∀ V, Below wr.heap.size wr V → V.cell? ⟨b, off + k * 2 + 1, none⟩ = some (.slice so sn sc) := fun V hV => cell_keep hV (cell_keep hbw g1)
        have hki : (0 : Int) ≤ (k : Int) := by omega
        have hkj : (k : Int) < (h.length : Int) := by omega
        have HBEL := Lib.hid hbel
        have HBW := Lib.hid hbw
        clear g0 g1 g2 hhs hbel hbw hbd r1 hsn
        generalize hG : hsrc h k = hs at *
        have HG := Lib.hid hG
        clear hG
        go_wp2
        go_region_held3 (fun V => Below wr.heap.size wr V) (first | with_reducible exact k0 | with_reducible exact b3) (first | (go_at_call 128; refine q _ ?_; intro z w2 hz b2; have b3 : Below wr.heap.size wr w2 := k0.trans (b2.mono k0.size)))
        have HZ := Lib.hid hz
        clear q b2 hz
        cases z with
        | true =>
          have hall2 : Hid (∀ b, b < k + 1 → hsrc h b < pn ∧ ∀ x ∈ hpairs h b, x.reg < a2 ∧ x.place < b2 + b4) := fun j hj => by
            by_cases e : j = k
            · rw [e, HG.out]; exact HZ.out.1 rfl
            · exact hall.out j (by omega)
          clear hall
          go_wp2
          go_roundw
          case rel => exact ⟨k + 1, by omega, by go_num, HBEL.out.trans (b3.mono HBEL.out.size), hall2⟩
          case measure => simp [intOf]; omega
        | false =>
          have HF := Lib.hid (HP.out false _ ⟨fun hq => (by cases hq), fun hA => by have := hA.2 k hlt; rw [HG.out] at this; have := HZ.out.2 this; cases this⟩ (HBW.out.trans (b3.mono HBW.out.size)))
          clear hall
          go_wp2
          exact HF.out
      · obtain rfl : k = h.length := by omega
        have HF := Lib.hid (HP.out true _ ⟨fun _ => ⟨HLEN.out, hall.out⟩, fun _ => rfl⟩ hbw)
        clear hhs hall hbel hbw
        go_wp2
        exact HF.out
  · have hq : ((h.length : Int) == (qn : Int)) = false := by simp; omega
    have HF := Lib.hid (HP.out false _ ⟨fun hq => (by cases hq), fun hA => absurd hA.1 hlen⟩ b0)
    clear hhs r1 b0 HP hlen
    go_enter Tryz.func85, Tryz.ntmps85
    go_wp2
    exact HF.out

end Go.Proofs.YtblhmeidbjigaaaGreatDoor

/- Package compare: does the hint hold at the start? -/
set_option linter.unusedSimpArgs false
set_option linter.unusedVariables false
namespace Go.Proofs.YtblhmeidbjigaaaGreatDoor
open Go.RowKit

set_option maxRecDepth 100000 in
set_option maxHeartbeats 2000000 in
theorem vBegin_cps (a1 a2 a3 a4 b1 b2 b3 b4 : Int) (po qo ho : Option Addr) (pn pc qn qc hn hc : Nat) (rg pl : Int) (w : World) (Post : Ending → World → Prop)
    (hp : ∀ z w', (z = true ↔ pl < b2 ∧ (rg = pl ∨ (a1 ≤ rg ∧ a1 ≤ pl))) → Below w.heap.size w w' → Post (.returned (.bool z)) w') :
    Calls Tryz.prog 129 #[.agg #[.int .i64 a1, .int .i64 a2, .int .i64 a3, .int .i64 a4, .slice po pn pc, .int .i64 b1, .int .i64 b2, .int .i64 b3, .int .i64 b4, .slice qo qn qc, .slice ho hn hc], .agg #[.int .i64 rg, .int .i64 pl]] w Post := by
  have b0 : Below w.heap.size w ((w.alloc (.cells #[.int .i64 a1, .int .i64 a2, .int .i64 a3, .int .i64 a4, .slice po pn pc, .int .i64 b1, .int .i64 b2, .int .i64 b3, .int .i64 b4, .slice qo qn qc, .slice ho hn hc] 143)).alloc (.cells #[.int .i64 rg, .int .i64 pl] 83)) := ((Below.refl _ _).alloc (Nat.le_refl _) _).alloc (by simp) _
  have HP := Lib.hid hp
  have HB := Lib.hid b0
  clear hp b0
  by_cases h1 : pl < b2
  · have n1 : ¬ (b2 ≤ pl) := by omega
    by_cases h2 : rg = pl
    · subst h2
      have HF := Lib.hid (HP.out true _ ⟨fun _ => ⟨h1, .inl rfl⟩, fun _ => rfl⟩ HB.out)
      have hq : (rg == rg) = true := by simp
      clear HP HB
      by_cases h3 : a1 ≤ rg
      · go_enter Tryz.func129, Tryz.ntmps129
        go_wp2
        exact HF.out
      · go_enter Tryz.func129, Tryz.ntmps129
        go_wp2
        exact HF.out
    · have hq : (rg == pl) = false := by simp [h2]
      by_cases h3 : a1 ≤ rg
      · by_cases h4 : a1 ≤ pl
        · have HF := Lib.hid (HP.out true _ ⟨fun _ => ⟨h1, .inr ⟨h3, h4⟩⟩, fun _ => rfl⟩ HB.out)
          clear HP HB h2
          go_enter Tryz.func129, Tryz.ntmps129
          go_wp2
          exact HF.out
        · have HF := Lib.hid (HP.out false _ ⟨fun q => (by cases q), fun hA => absurd hA.2 (by omega)⟩ HB.out)
          clear HP HB h2
          go_enter Tryz.func129, Tryz.ntmps129
          go_wp2
          exact HF.out
      · have HF := Lib.hid (HP.out false _ ⟨fun q => (by cases q), fun hA => absurd hA.2 (by omega)⟩ HB.out)
        clear HP HB h2
        go_enter Tryz.func129, Tryz.ntmps129
        go_wp2
        exact HF.out
  · have n1 : b2 ≤ pl := by omega
    have HF := Lib.hid (HP.out false _ ⟨fun q => (by cases q), fun hA => absurd hA.1 h1⟩ HB.out)
    clear HP HB
    go_enter Tryz.func129, Tryz.ntmps129
    go_wp2
    exact HF.out

set_option maxRecDepth 100000 in
set_option maxHeartbeats 4000000 in
theorem vStart_cps (a1 a2 a3 a4 b1 b2 b3 b4 : Int) (po qo ho : Option Addr) (pn pc qn qc hn hc : Nat) (h : List PingD) (h0 : 0 < h.length) (w : World) (hh : RdHint w (.slice ho hn hc) h) (Post : Ending → World → Prop)
    (hp : ∀ z w', (z = true ↔ hsrc h 0 = 0 ∧ ∀ x ∈ hpairs h 0, x.place < b2 ∧ (x.reg = x.place ∨ (a1 ≤ x.reg ∧ a1 ≤ x.place))) → Below w.heap.size w w' → Post (.returned (.bool z)) w') :
    Calls Tryz.prog 86 #[.agg #[.int .i64 a1, .int .i64 a2, .int .i64 a3, .int .i64 a4, .slice po pn pc, .int .i64 b1, .int .i64 b2, .int .i64 b3, .int .i64 b4, .slice qo qn qc, .slice ho hn hc]] w Post := by
  obtain ⟨ho', hc', e0, hhl, hhs⟩ := hh
  simp only [Value.slice.injEq] at e0
  obtain ⟨rfl, rfl, rfl⟩ := e0
  obtain ⟨hb, hoff, sv, rfl, g0, g1, g2⟩ := hhs 0 h0
  obtain ⟨so, sc, hsv, hql, hqs⟩ := id g2
  obtain ⟨qs, hqe⟩ : ∃ qs, qs = hpairs h 0 := ⟨_, rfl⟩
  rw [← hqe] at hsv hqs hql hp
  subst hsv
  simp only [Nat.zero_mul, Nat.add_zero] at g0 g1
  have WFb : Below w.heap.size w ((w.alloc (.cells #[.int .i64 a1, .int .i64 a2, .int .i64 a3, .int .i64 a4, .slice po pn pc, .int .i64 b1, .int .i64 b2, .int .i64 b3, .int .i64 b4, .slice qo qn qc, .slice (some ⟨hb, hoff, none⟩) h.length hc] 143)).alloc (.cells #[.int .i64 (hsrc h 0), .slice so qs.length sc] 81)) := ((Below.refl _ _).alloc (Nat.le_refl _) _).alloc (by simp) _
  have bA : Below w.heap.size w (w.alloc (.cells #[.int .i64 a1, .int .i64 a2, .int .i64 a3, .int .i64 a4, .slice po pn pc, .int .i64 b1, .int .i64 b2, .int .i64 b3, .int .i64 b4, .slice qo qn qc, .slice (some ⟨hb, hoff, none⟩) h.length hc] 143)) := (Below.refl _ _).alloc (Nat.le_refl _) _
  have y0 := cell_keep bA g0
  have y1 := cell_keep bA g1
  have r1 : Row ((w.alloc (.cells #[.int .i64 a1, .int .i64 a2, .int .i64 a3, .int .i64 a4, .slice po pn pc, .int .i64 b1, .int .i64 b2, .int .i64 b3, .int .i64 b4, .slice qo qn qc, .slice (some ⟨hb, hoff, none⟩) h.length hc] 143)).alloc (.cells #[.int .i64 (hsrc h 0), .slice so qs.length sc] 81)) w.heap.size 143 [.int .i64 a1, .int .i64 a2, .int .i64 a3, .int .i64 a4, .slice po pn pc, .int .i64 b1, .int .i64 b2, .int .i64 b3, .int .i64 b4, .slice qo qn qc, .slice (some ⟨hb, hoff, none⟩) h.length hc] := Row.alloc (heap_alloc_new w _) _
  have r2 : Row ((w.alloc (.cells #[.int .i64 a1, .int .i64 a2, .int .i64 a3, .int .i64 a4, .slice po pn pc, .int .i64 b1, .int .i64 b2, .int .i64 b3, .int .i64 b4, .slice qo qn qc, .slice (some ⟨hb, hoff, none⟩) h.length hc] 143)).alloc (.cells #[.int .i64 (hsrc h 0), .slice so qs.length sc] 81)) (w.heap.size + 1) 81 [.int .i64 (hsrc h 0), .slice so qs.length sc] := heap_alloc2_new w _ _
  have hli : (0 : Int) < (h.length : Int) := by omega
  have HP := Lib.hid hp
  clear hp hhs g0 g1 g2 hqe bA
  by_cases hz : hsrc h 0 = 0
  · have hzq : (hsrc h 0 == 0) = true := by simp [hz]
    have HZ0 := Lib.hid hz
    obtain ⟨W, hW⟩ : ∃ W, W = ((w.alloc (.cells #[.int .i64 a1, .int .i64 a2, .int .i64 a3, .int .i64 a4, .slice po pn pc, .int .i64 b1, .int .i64 b2, .int .i64 b3, .int .i64 b4, .slice qo qn qc, .slice (some ⟨hb, hoff, none⟩) h.length hc] 143)).alloc (.cells #[.int .i64 (hsrc h 0), .slice so qs.length sc] 81)) := ⟨_, rfl⟩
    rw [← hW] at WFb r1 r2
    have HWE := Lib.hid hW
    clear hW hz
    generalize hsrc h 0 = s0 at *
    go_enter Tryz.func86, Tryz.ntmps86
    go_wp2
    rw [← HWE.out]
    clear HWE y0 y1
    go_loopw [4] (fun i wr => ∃ (k : Nat), k ≤ qs.length ∧ i = .int .i64 k ∧ Below W.heap.size W wr ∧ Hid (∀ j, j < k → pplace qs j < b2 ∧ (preg qs j = pplace qs j ∨ (a1 ≤ preg qs j ∧ a1 ≤ pplace qs j))))
      (fun i _ => qs.length - (intOf i).toNat)
    case atStart => exact ⟨0, Nat.zero_le _, rfl, Below.refl _ _, fun j hj => by omega⟩
    case round =>
      obtain ⟨k, hk, rfl, hbel, hall⟩ := hrel
      have hbw : Below w.heap.size w wr := WFb.trans (hbel.mono WFb.size)
      have x1 := cell_keep hbel (r2.cell (i := 1) rfl)
      by_cases hlt : k < qs.length
      · obtain ⟨b, off, rfl, g0, g1⟩ := hqs k hlt
        have k0 : Below wr.heap.size wr wr.drew := (Below.refl _ _).drew
        have q := fun P' => vBegin_cps a1 a2 a3 a4 b1 b2 b3 b4 po qo (some ⟨hb, hoff, none⟩) pn pc qn qc h.length hc (preg qs k) (pplace qs k) wr.drew P'
        have c0 := fun V (hV : Below wr.heap.size wr V) => cell_keep hV (cell_keep hbel (r1.cell (i := 0) rfl))
        have c1 := fun V (hV : Below wr.heap.size wr V) => cell_keep hV (cell_keep hbel (r1.cell (i := 1) rfl))
        have c2 := fun V (hV : Below wr.heap.size wr V) => cell_keep hV (cell_keep hbel (r1.cell (i := 2) rfl))
        have c3 := fun V (hV : Below wr.heap.size wr V) => cell_keep hV (cell_keep hbel (r1.cell (i := 3) rfl))
        have c4 := fun V (hV : Below wr.heap.size wr V) => cell_keep hV (cell_keep hbel (r1.cell (i := 4) rfl))
        have c5 := fun V (hV : Below wr.heap.size wr V) => cell_keep hV (cell_keep hbel (r1.cell (i := 5) rfl))
        have c6 := fun V (hV : Below wr.heap.size wr V) => cell_keep hV (cell_keep hbel (r1.cell (i := 6) rfl))
        have c7 := fun V (hV : Below wr.heap.size wr V) => cell_keep hV (cell_keep hbel (r1.cell (i := 7) rfl))
        have c8 := fun V (hV : Below wr.heap.size wr V) => cell_keep hV (cell_keep hbel (r1.cell (i := 8) rfl))
        have c9 := fun V (hV : Below wr.heap.size wr V) => cell_keep hV (cell_keep hbel (r1.cell (i := 9) rfl))
        have c10 := fun V (hV : Below wr.heap.size wr V) => cell_keep hV (cell_keep hbel (r1.cell (i := 10) rfl))
        have z1 := fun V (hV : Below wr.heap.size wr V) => cell_keep hV (cell_keep hbel (r2.cell (i := 1) rfl))
        have y0 : ∀ V, Below wr.heap.size wr V → V.cell? ⟨b, off + k * 2, none⟩ = some (.int .i64 (preg qs k)) := fun V hV => cell_keep hV (cell_keep hbw g0)
        have y1 : ∀ V, Below wr.heap.size wr V → V.cell? ⟨b, off + k * 2 + 1, none⟩ = some (.int .i64 (pplace qs k)) := fun V hV => cell_keep hV (cell_keep hbw g1)
        have hki : (0 : Int) ≤ (k : Int) := by omega
        have hkj : (k : Int) < (qs.length : Int) := by omega
        have HBEL := Lib.hid hbel
        have HBW := Lib.hid hbw
        have HM := Lib.hid (getD_mem' (d := pz) hlt)
        have HR : Hid ((qs.getD k pz).reg = preg qs k ∧ (qs.getD k pz).place = pplace qs k) := ⟨rfl, rfl⟩
        clear g0 g1 hqs hbel hbw r1 r2
        generalize preg qs k = rg at *
        generalize pplace qs k = pg at *
        go_wp2
        go_region_held3 (fun V => Below wr.heap.size wr V) (first | with_reducible exact k0 | with_reducible exact b3) (first | (go_at_call 129; refine q _ ?_; intro z w2 hz b2; have b3 : Below wr.heap.size wr w2 := k0.trans (b2.mono k0.size)))
        have HZ := Lib.hid hz
        clear q b2 hz
        cases z with
        | true =>
          have hall2 : Hid (∀ j, j < k + 1 → pplace qs j < b2 ∧ (preg qs j = pplace qs j ∨ (a1 ≤ preg qs j ∧ a1 ≤ pplace qs j))) := fun j hj => by
            by_cases e : j = k
            · rw [e]
              have q1 : preg qs k = rg := HR.out.1
              have q2 : pplace qs k = pg := HR.out.2
              rw [q1, q2]; exact HZ.out.1 rfl
            · exact hall.out j (by omega)
          clear hall HR HM
          go_wp2
          go_roundw
          case rel => exact ⟨k + 1, by omega, by go_num, HBEL.out.trans (b3.mono HBEL.out.size), hall2⟩
          case measure => simp [intOf]; omega
        | false =>
          have HF := Lib.hid (HP.out false _ ⟨fun hq => (by cases hq), fun hA => by
            have := hA.2 _ HM.out
            rw [HR.out.1, HR.out.2] at this
            have := HZ.out.2 this; cases this⟩ (HBW.out.trans (b3.mono HBW.out.size)))
          clear hall HR HM
          go_wp2
          exact HF.out
      · obtain rfl : k = qs.length := by omega
        have HY : Hid (∀ x ∈ qs, x.place < b2 ∧ (x.reg = x.place ∨ (a1 ≤ x.reg ∧ a1 ≤ x.place))) := fun x hx => by
          obtain ⟨j, hj, rfl⟩ := List.getElem_of_mem hx
          have := hall.out j hj
          simpa [preg, pplace, List.getD, hj] using this
        have HF := Lib.hid (HP.out true _ ⟨fun _ => ⟨HZ0.out, HY.out⟩, fun _ => rfl⟩ hbw)
        clear hqs hall hbel hbw
        go_wp2
        exact HF.out
  · have hzq : (hsrc h 0 == 0) = false := by simp [hz]
    have HF := Lib.hid (HP.out false _ ⟨fun hq => (by cases hq), fun hA => absurd hA.1 hz⟩ WFb)
    clear hqs r1 r2 HP hz WFb
    generalize hsrc h 0 = s0 at *
    go_enter Tryz.func86, Tryz.ntmps86
    go_wp2
    exact HF.out

end Go.Proofs.YtblhmeidbjigaaaGreatDoor
