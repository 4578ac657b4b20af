/- ran, with any mark and with what comes out. -/
import Derived.Test.YtblhmeidbjigaabGreatDoorRows
import Derived.WalkKit
import Derived.WalkSpells
import Derived.WalkLawsBesides
import Derived.Laws.BytesArg
import Derived.Deep.QuietTactic
import Derived.BigQuiet
import Derived.Deep.RegionHeld3
import Derived.Maps.AppendAt
import Derived.StillTailTactics
import Derived.Lib.ItoaNum
import Derived.Lib.ItoaLen
import Derived.OpenShut
import Derived.Shelf.Strconv.Itoa3
import Derived.Shelf.Lay
import Derived.Ground.NamesProg
import Derived.Lib.SmallJoins
import Derived.Lib.Hide
import Derived.ProofKit
import Derived.SizedLaws
import Derived.Deep.Slices
import Derived.ShutString
import Derived.ChangeOld
import Derived.Deep.Strs
import Derived.Test.YtblhmeidbjigaabGreatDoorRRunToLRanAll

set_option linter.unusedSimpArgs false
set_option linter.unusedVariables false
namespace Go.Proofs.YtblhmeidbjigaabGreatDoor
open Go.RowKit

set_option maxRecDepth 100000 in
set_option maxHeartbeats 4000000 in
theorem ran2_cps (s : ByteArray) (av mv0 sv0 : Value) (args mem spill : List Int) (fuel kk : Int) (hkk : 0 ≤ kk ∧ kk ≤ 4611686018427387) (w : World) (ha : RdWords w av args) (hm : RdWords w mv0 mem) (hsp : RdWords w sv0 spill) (hla : args.length ≤ 17592186044416) (hlm : mem.length ≤ 17592186044416) (hls : spill.length ≤ 17592186044416) (hs : s.size ≤ maxLen) (Post : Ending → World → Prop)
    (hp : ∀ k r mv lv (ml ll : List Int) w', ml.length ≤ 100000 → ll.length ≤ 100000 → w'.ownsRow w.heap.size 3 1 mv ml.length (ints ml) → w'.ownsRow w.heap.size 3 1 lv ll.length (ints ll) → Below w.heap.size w w' → Post (.returned (.tuple #[.agg #[.int .i64 k, .int .i64 r, mv, lv], .bool true])) w') :
    Calls Tryz.prog 44 #[.string s, .agg #[av, mv0, sv0], .int .i64 fuel, .int .i64 kk] w Post := by
  obtain ⟨ao, ac, rfl, _, _⟩ := id ha
  obtain ⟨mo, mc, rfl, _, _⟩ := id hm
  obtain ⟨so, sc, rfl, _, _⟩ := id hsp
  obtain ⟨W, hW⟩ : ∃ W, W = ((w.alloc (.cells #[.slice ao args.length ac, .slice mo mem.length mc, .slice so spill.length sc] 67)).alloc (.cells #[.int .i64 0, .int .i64 0, .slice none 0 0, .slice none 0 0] 63)).alloc (.cells #[.slice none 0 0, .slice none 0 0, .slice none 0 0] 67) := ⟨_, rfl⟩
  have hzW : w.heap.size + 3 ≤ W.heap.size := by rw [hW]; simp
  have rI : Row W w.heap.size 67 [.slice ao args.length ac, .slice mo mem.length mc, .slice so spill.length sc] := by
    rw [hW]
    have q : Row (w.alloc (.cells #[.slice ao args.length ac, .slice mo mem.length mc, .slice so spill.length sc] 67)) w.heap.size 67 [.slice ao args.length ac, .slice mo mem.length mc, .slice so spill.length sc] := heap_alloc_new w _
    exact (q.alloc _).alloc _
  have rR : Row W (w.heap.size + 1) 63 zOut := by
    rw [hW]
    have q : Row ((w.alloc (.cells #[.slice ao args.length ac, .slice mo mem.length mc, .slice so spill.length sc] 67)).alloc (.cells #[.int .i64 0, .int .i64 0, .slice none 0 0, .slice none 0 0] 63)) (w.heap.size + 1) 63 zOut := heap_alloc2_new w _ _
    exact q.alloc _
  have rJ : Row W (w.heap.size + 2) 67 [.slice none 0 0, .slice none 0 0, .slice none 0 0] := by
    rw [hW]
    have q := heap_alloc2_new (w.alloc (.cells #[.slice ao args.length ac, .slice mo mem.length mc, .slice so spill.length sc] 67)) (.cells #[.int .i64 0, .int .i64 0, .slice none 0 0, .slice none 0 0] 63) (.cells #[.slice none 0 0, .slice none 0 0, .slice none 0 0] 67)
    simp only [World.size_alloc] at q
    exact q
  have hbW : Below w.heap.size w W := by rw [hW]; exact (((Below.refl w.heap.size w).alloc (Nat.le_refl _) _).alloc (by simp) _).alloc (by simp; omega) _
  have c0 := rI.cell (i := 0) rfl
  rw [hW] at c0
  go_enter Tryz.func44, Tryz.ntmps44
  go_wp2_with fail
  rw [← hW]
  clear hW c0
  refine roomy_cps' _ args W (ha.keep hbW) hla _ ?_
  intro ga w1 hg1 hlt1 hr1 hb1
  have hz1 : W.heap.size ≤ w1.heap.size := by have := hb1.size; (try simp at this); omega
  have hgz1 : W.heap.size ≤ ga := by (try simp at hg1); omega
  have rI1 := (rI.keep hb1).unset (a := ⟨w.heap.size + 2, 0, none⟩) (by show w.heap.size ≠ w.heap.size + 2; omega) (.slice (some ⟨ga, 0, none⟩) args.length (args.length + 2))
  have rR1 := (rR.keep hb1).unset (a := ⟨w.heap.size + 2, 0, none⟩) (by show w.heap.size + 1 ≠ w.heap.size + 2; omega) (.slice (some ⟨ga, 0, none⟩) args.length (args.length + 2))
  have rK1 := rJ.keep hb1
  have z1 := rK1.cell (i := 0) rfl
  have zf1 := rK1.frozen 0
  have rJ1 := rK1.set 0 (.slice (some ⟨ga, 0, none⟩) args.length (args.length + 2))
  have hbb1 := (hbW.trans (hb1.mono (by (try simp); omega))).setCell (p := ⟨w.heap.size + 2, 0, none⟩) (by show w.heap.size ≤ w.heap.size + 2; omega) (.slice (some ⟨ga, 0, none⟩) args.length (args.length + 2))
  have roomga1 := Row.unset hr1 (a := ⟨w.heap.size + 2, 0, none⟩) (by show ga ≠ w.heap.size + 2; omega) (.slice (some ⟨ga, 0, none⟩) args.length (args.length + 2))
  have c1 := rI1.cell (i := 1) rfl
  go_wp2_with fail
  refine roomy_cps' _ mem _ (hm.keep hbb1) hlm _ ?_
  clear c1 z1 zf1 rK1
  intro gm w2 hg2 hlt2 hr2 hb2
  have hz2 : W.heap.size ≤ w2.heap.size := by have := hb2.size; (try simp at this); omega
  have hgz2 : W.heap.size ≤ gm := by (try simp at hg2); omega
  have rI2 := (rI1.keep hb2).unset (a := ⟨w.heap.size + 2, 1, none⟩) (by show w.heap.size ≠ w.heap.size + 2; omega) (.slice (some ⟨gm, 0, none⟩) mem.length (mem.length + 2))
  have rR2 := (rR1.keep hb2).unset (a := ⟨w.heap.size + 2, 1, none⟩) (by show w.heap.size + 1 ≠ w.heap.size + 2; omega) (.slice (some ⟨gm, 0, none⟩) mem.length (mem.length + 2))
  have rK2 := rJ1.keep hb2
  have z2 := rK2.cell (i := 1) rfl
  have zf2 := rK2.frozen 1
  have rJ2 := rK2.set 1 (.slice (some ⟨gm, 0, none⟩) mem.length (mem.length + 2))
  have hbb2 := (hbb1.trans (hb2.mono (by (try simp); omega))).setCell (p := ⟨w.heap.size + 2, 1, none⟩) (by show w.heap.size ≤ w.heap.size + 2; omega) (.slice (some ⟨gm, 0, none⟩) mem.length (mem.length + 2))
  have roomga12 := Row.unset (Row.keep roomga1 hb2) (a := ⟨w.heap.size + 2, 1, none⟩) (by show ga ≠ w.heap.size + 2; omega) (.slice (some ⟨gm, 0, none⟩) mem.length (mem.length + 2))
  have roomgm2 := Row.unset hr2 (a := ⟨w.heap.size + 2, 1, none⟩) (by show gm ≠ w.heap.size + 2; omega) (.slice (some ⟨gm, 0, none⟩) mem.length (mem.length + 2))
  have c2 := rI2.cell (i := 2) rfl
  go_wp2_with fail
  refine roomy_cps' _ spill _ (hsp.keep hbb2) hls _ ?_
  clear c2 z2 zf2 rK2
  intro gs w3 hg3 hlt3 hr3 hb3
  have hz3 : W.heap.size ≤ w3.heap.size := by have := hb3.size; (try simp at this); omega
  have hgz3 : W.heap.size ≤ gs := by (try simp at hg3); omega
  have rI3 := (rI2.keep hb3).unset (a := ⟨w.heap.size + 2, 2, none⟩) (by show w.heap.size ≠ w.heap.size + 2; omega) (.slice (some ⟨gs, 0, none⟩) spill.length (spill.length + 2))
  have rR3 := (rR2.keep hb3).unset (a := ⟨w.heap.size + 2, 2, none⟩) (by show w.heap.size + 1 ≠ w.heap.size + 2; omega) (.slice (some ⟨gs, 0, none⟩) spill.length (spill.length + 2))
  have rK3 := rJ2.keep hb3
  have z3 := rK3.cell (i := 2) rfl
  have zf3 := rK3.frozen 2
  have rJ3 := rK3.set 2 (.slice (some ⟨gs, 0, none⟩) spill.length (spill.length + 2))
  have hbb3 := (hbb2.trans (hb3.mono (by (try simp); omega))).setCell (p := ⟨w.heap.size + 2, 2, none⟩) (by show w.heap.size ≤ w.heap.size + 2; omega) (.slice (some ⟨gs, 0, none⟩) spill.length (spill.length + 2))
  have roomga123 := Row.unset (Row.keep roomga12 hb3) (a := ⟨w.heap.size + 2, 2, none⟩) (by show ga ≠ w.heap.size + 2; omega) (.slice (some ⟨gs, 0, none⟩) spill.length (spill.length + 2))
  have roomgm23 := Row.unset (Row.keep roomgm2 hb3) (a := ⟨w.heap.size + 2, 2, none⟩) (by show gm ≠ w.heap.size + 2; omega) (.slice (some ⟨gs, 0, none⟩) spill.length (spill.length + 2))
  have roomgs3 := Row.unset hr3 (a := ⟨w.heap.size + 2, 2, none⟩) (by show gs ≠ w.heap.size + 2; omega) (.slice (some ⟨gs, 0, none⟩) spill.length (spill.length + 2))
  have ra : Room _ ga args := roomga123
  have rm : Room _ gm mem := roomgm23
  have rs : Room _ gs spill := roomgs3
  have j0 := rJ3.cell (i := 0) rfl
  have j1 := rJ3.cell (i := 1) rfl
  have j2 := rJ3.cell (i := 2) rfl
  go_wp2_with fail
  refine tRun_cps s _ _ _ args mem spill fuel _ (ra.rd (by omega)) (rm.rd (by omega)) (rs.rd (by omega)) hs _ ?_
  clear j0 j1 j2 z3 zf3 rK3
  intro o e mv lv w4 hans ho
  obtain ⟨b, hb⟩ : ∃ b, b = (w3.setCell ⟨w.heap.size + 2, 2, none⟩ (.slice (some ⟨gs, 0, none⟩) spill.length (spill.length + 2))).heap.size := ⟨_, rfl⟩
  have hbz : b = w3.heap.size := by rw [hb]; simp
  have hoB := ho.below
  have om := ho.mem
  have ol := ho.leak
  rw [← hb] at om ol
  have hlga : ga < b := by have := Row.lt ra; rw [hb]; exact this
  have hlgm : gm < b := by have := Row.lt rm; rw [hb]; exact this
  have hlgs : gs < b := by have := Row.lt rs; rw [hb]; exact this
  have hzb : w.heap.size ≤ b := by omega
  have hz4 : b ≤ w4.heap.size := by rw [hb]; exact hoB.size
  have rI4 := rI3.keep hoB
  have rR4 := rR3.keep hoB
  have rJ4 := rJ3.keep hoB
  have ra4 := ra.keep hoB
  have rm4 := rm.keep hoB
  have rs4 := rs.keep hoB
  have hbb4 := hbb3.trans (hoB.mono (by simp; omega))
  obtain ⟨mo', mc', rfl⟩ := owns_slice om
  obtain ⟨lo', lc', rfl⟩ := owns_slice ol
  obtain ⟨w5, hw5⟩ : ∃ w5, w5 = w4.alloc (.cells #[.int .i64 o.kind, .int .i64 o.result, .slice mo' o.mem.length mc', .slice lo' o.leak.length lc'] 63) := ⟨_, rfl⟩
  have hal : Below w4.heap.size w4 w5 := by rw [hw5]; exact (Below.refl w4.heap.size w4).alloc (Nat.le_refl _) _
  have rO : Row w5 w4.heap.size 63 [.int .i64 o.kind, .int .i64 o.result, .slice mo' o.mem.length mc', .slice lo' o.leak.length lc'] := by rw [hw5]; exact heap_alloc_new w4 _
  have hbb5 := hbb4.trans (hal.mono (by omega))
  have rI5 := rI4.keep hal
  have hz5 : w4.heap.size ≤ w5.heap.size := hal.size
  have i0 := rI5.cell (i := 0) rfl
  have i1 := rI5.cell (i := 1) rfl
  have i2 := rI5.cell (i := 2) rfl
  rw [hw5] at i0 i1 i2
  have hap := ho.apart
  clear hb hbz ho rI rR rJ rI1 rR1 rJ1 rI2 rR2 rJ2 rI3 rR3 rJ3 ra rm rs hb1 hb2 hb3 hr1 hr2 hr3 hbb1 hbb2 hbb3 hoB hbW
  go_wp2_with fail
  rw [← hw5]
  clear hw5 i0 i1 i2
  refine rRun_cps s _ _ _ args mem spill fuel w5 (ha.keep hbb5) (hm.keep hbb5) (hsp.keep hbb5) hs _ ?_
  intro o2 e2 mv2 lv2 w6 hans2 ho2
  obtain ⟨rfl, rfl⟩ := hans2.one hans
  have hsz := hans.sizes
  obtain ⟨mo2, mc2, rfl⟩ := owns_slice ho2.mem
  obtain ⟨lo2, lc2, rfl⟩ := owns_slice ho2.leak
  obtain ⟨w7, hw7⟩ : ∃ w7, w7 = w6.alloc (.cells #[.int .i64 o2.kind, .int .i64 o2.result, .slice mo2 o2.mem.length mc2, .slice lo2 o2.leak.length lc2] 63) := ⟨_, rfl⟩
  have hal2 : Below w6.heap.size w6 w7 := by rw [hw7]; exact (Below.refl w6.heap.size w6).alloc (Nat.le_refl _) _
  have h56 := ho2.below
  have h57 : Below w5.heap.size w5 w7 := h56.trans (hal2.mono h56.size)
  have h47 : Below w4.heap.size w4 w7 := hal.trans (h57.mono hz5)
  have hF : Fr w b w5.heap.size w.heap.size (w.heap.size + 1) (w.heap.size + 2) w4.heap.size w6.heap.size ga gm gs [.slice ao args.length ac, .slice mo mem.length mc, .slice so spill.length sc] [.slice (some ⟨ga, 0, none⟩) args.length (args.length + 2), .slice (some ⟨gm, 0, none⟩) mem.length (mem.length + 2), .slice (some ⟨gs, 0, none⟩) spill.length (spill.length + 2)] [.int .i64 o2.kind, .int .i64 o2.result, .slice mo' o2.mem.length mc', .slice lo' o2.leak.length lc'] [.int .i64 o2.kind, .int .i64 o2.result, .slice mo2 o2.mem.length mc2, .slice lo2 o2.leak.length lc2] args mem spill o2.mem o2.leak (.slice mo2 o2.mem.length mc2) (.slice lo2 o2.leak.length lc2) w7 :=
    ⟨rI4.keep h47, rR4.keep h47, rJ4.keep h47, rO.keep h57, by rw [hw7]; exact heap_alloc_new w6 _, ra4.keep h47, rm4.keep h47, rs4.keep h47, owns_below ho2.mem hal2 (Nat.le_refl _), owns_below ho2.leak hal2 (Nat.le_refl _), hbb4.trans (h47.mono (by omega)), hlga, hlgm, hlgs, hzb, by omega⟩
  have hT : Two b w5.heap.size (.slice mo' o2.mem.length mc') (.slice lo' o2.leak.length lc') o2.mem o2.leak w7 :=
    ⟨owns_below om h47 (Nat.le_refl _), owns_below ol h47 (Nat.le_refl _), hap, fun g q => by have := (om.lt g q).2; omega, fun g q => by have := (ol.lt g q).2; omega⟩
  have k0 := hF.rO.cell (i := 0) rfl
  have k1 := hF.rO.cell (i := 1) rfl
  have k2 := hF.rO.cell (i := 2) rfl
  have k3 := hF.rO.cell (i := 3) rfl
  have q0 := hF.rP.cell (i := 0) rfl
  have q1 := hF.rP.cell (i := 1) rfl
  have q2 := hF.rP.cell (i := 2) rfl
  have q3 := hF.rP.cell (i := 3) rfl
  rw [hw7] at k0 k1 k2 k3 q0 q1 q2 q3
  clear om ol hap rI4 rR4 rJ4 ra4 rm4 rs4 rO rI5 hal hal2 h56 h57 h47 ho2 hans hans2 hbb4
  generalize w5.heap.size = b2 at *
  generalize w4.heap.size = O at *
  go_wp2_with fail
  rw [← hw7]
  clear hw7 k0 k1 k2 k3 q0 q1 q2 q3
  refine (lSameOutcome_any o2.kind o2.result _ _ _ _ o2.mem o2.leak w7 (owns_rd hT.om) (owns_rd hT.ol) (owns_rd hF.m2) (owns_rd hF.l2)).mono ?_
  rintro e w8 ⟨rfl, hb8⟩
  obtain ⟨hF8, hT8⟩ := hF.step hT hb8
  have k2 := hF8.rO.cell (i := 2) rfl
  have hO8 := hF8.rO.lt
  clear hF hT hb8
  go_wp2_with fail
  refine (behind_any b _ o2.mem w8 hT8.om (by omega) hsz.1).mono ?_
  rintro e w9 ⟨rfl, hom, hk9⟩
  obtain ⟨hF9, hT9⟩ := hF8.stepM hT8 hk9 hom
  have k3 := hF9.rO.cell (i := 3) rfl
  have hO9 := hF9.rO.lt
  clear hF8 hT8 hom hk9 k2
  go_wp2_with fail
  refine (behind_any b _ o2.leak w9 hT9.ol (by omega) hsz.2).mono ?_
  rintro e w10 ⟨rfl, hol, hk10⟩
  obtain ⟨hF10, hT10⟩ := hF9.stepL hT9 hk10 hol
  clear hF9 hT9 hol hk10 k3
  have k0 := hF10.rO.cell (i := 0) rfl
  have q0 := hF10.rP.cell (i := 0) rfl
  have k1 := hF10.rO.cell (i := 1) rfl
  have q1 := hF10.rP.cell (i := 1) rfl
  have k2 := hF10.rO.cell (i := 2) rfl
  have q2 := hF10.rP.cell (i := 2) rfl
  have k3 := hF10.rO.cell (i := 3) rfl
  have q3 := hF10.rP.cell (i := 3) rfl
  go_wp2_with fail
  refine (lSameOutcome_any o2.kind o2.result _ _ _ _ o2.mem o2.leak w10 (owns_rd hT10.om) (owns_rd hT10.ol) (owns_rd hF10.m2) (owns_rd hF10.l2)).mono ?_
  rintro e w11 ⟨rfl, hb11⟩
  obtain ⟨hF11, hT11⟩ := hF10.step hT10 hb11
  clear hF10 hT10 hb11 k0 k1 k2 k3 q0 q1 q2 q3
  go_wp2
  go_loopw [16] (fun i wr => ∃ (k : Nat) (ml : List Int), k ≤ o2.mem.length ∧ i = .int .i64 k ∧ Hid (ml.length = o2.mem.length) ∧ Hid (Upto ml k (77 + 100 * kk)) ∧ Fr w b b2 w.heap.size (w.heap.size + 1) (w.heap.size + 2) O w6.heap.size ga gm gs [.slice ao args.length ac, .slice mo mem.length mc, .slice so spill.length sc] [.slice (some ⟨ga, 0, none⟩) args.length (args.length + 2), .slice (some ⟨gm, 0, none⟩) mem.length (mem.length + 2), .slice (some ⟨gs, 0, none⟩) spill.length (spill.length + 2)] [.int .i64 o2.kind, .int .i64 o2.result, .slice mo' o2.mem.length mc', .slice lo' o2.leak.length lc'] [.int .i64 o2.kind, .int .i64 o2.result, .slice mo2 o2.mem.length mc2, .slice lo2 o2.leak.length lc2] args mem spill o2.mem o2.leak (.slice mo2 o2.mem.length mc2) (.slice lo2 o2.leak.length lc2) wr ∧ Two b b2 (.slice mo' o2.mem.length mc') (.slice lo' o2.leak.length lc') ml o2.leak wr)
    (fun i _ => o2.mem.length - (intOf i).toNat)
  case atStart => exact ⟨0, o2.mem, Nat.zero_le _, rfl, rfl, (fun i hi => by omega), hF11, hT11⟩
  case round =>
    clear hF11 hT11
    obtain ⟨k, ml, hk, rfl, hml, hup, hF, hT⟩ := hrel
    have k2 := hF.rO.cell (i := 2) rfl
    by_cases hlt : k < o2.mem.length
    · have hkl : k < ml.length := by have := hml.out; omega
      obtain ⟨g, cap', he, hg, hcell, hfz⟩ := OwnW.at (w := wr) (l := ml) (owns_base hT.om (Nat.zero_le _)) (i := k) hkl
      simp only [Value.slice.injEq] at he
      obtain ⟨rfl, _, rfl⟩ := he
      have ff := hfz k
      have hki : (0 : Int) ≤ (k : Int) := by omega
      have hkj : (k : Int) < (o2.mem.length : Int) := by omega
      obtain ⟨hF2, hT2⟩ := hF.setM hT hg (i := k) hkl (77 + 100 * kk)
      have hml2 : Hid ((ml.set k (77 + 100 * kk)).length = o2.mem.length) := by show _ = _; rw [List.length_set]; exact hml.out
      have hup2 : Hid (Upto (ml.set k (77 + 100 * kk)) (k + 1) (77 + 100 * kk)) := hup.out.set hkl
      clear hF hT
      go_wp2
      go_roundw
      case rel => exact ⟨k + 1, ml.set k (77 + 100 * kk), by omega, by go_num, hml2, hup2, hF2, hT2⟩
      case measure => simp [intOf]; omega
    · obtain rfl : k = o2.mem.length := by omega
      have k3 := hF.rO.cell (i := 3) rfl
      have q3 := hF.rP.cell (i := 3) rfl
      go_wp2_with fail
      refine (lSameInts_any _ _ o2.leak wr (owns_rd hT.ol) (owns_rd hF.l2)).mono ?_
      rintro e w12 ⟨rfl, hb12⟩
      obtain ⟨hF12, hT12⟩ := hF.step hT hb12
      clear hF hT hb12 k2 k3 q3
      go_wp2
      go_loopw [18] (fun i wr => ∃ (k : Nat) (ll : List Int), k ≤ o2.leak.length ∧ i = .int .i64 k ∧ Hid (ll.length = o2.leak.length) ∧ Fr w b b2 w.heap.size (w.heap.size + 1) (w.heap.size + 2) O w6.heap.size ga gm gs [.slice ao args.length ac, .slice mo mem.length mc, .slice so spill.length sc] [.slice (some ⟨ga, 0, none⟩) args.length (args.length + 2), .slice (some ⟨gm, 0, none⟩) mem.length (mem.length + 2), .slice (some ⟨gs, 0, none⟩) spill.length (spill.length + 2)] [.int .i64 o2.kind, .int .i64 o2.result, .slice mo' o2.mem.length mc', .slice lo' o2.leak.length lc'] [.int .i64 o2.kind, .int .i64 o2.result, .slice mo2 o2.mem.length mc2, .slice lo2 o2.leak.length lc2] args mem spill o2.mem o2.leak (.slice mo2 o2.mem.length mc2) (.slice lo2 o2.leak.length lc2) wr ∧ Two b b2 (.slice mo' o2.mem.length mc') (.slice lo' o2.leak.length lc') ml ll wr)
        (fun i _ => o2.leak.length - (intOf i).toNat)
      case atStart => exact ⟨0, o2.leak, Nat.zero_le _, rfl, rfl, hF12, hT12⟩
      case round =>
        clear hF12 hT12
        obtain ⟨k, ll, hk, rfl, hll, hF, hT⟩ := hrel
        have k3 := hF.rO.cell (i := 3) rfl
        by_cases hlt : k < o2.leak.length
        · have hkl : k < ll.length := by have := hll.out; omega
          obtain ⟨g, cap', he, hg, hcell, hfz⟩ := OwnW.at (w := wr) (l := ll) (owns_base hT.ol (Nat.zero_le _)) (i := k) hkl
          simp only [Value.slice.injEq] at he
          obtain ⟨rfl, _, rfl⟩ := he
          have ff := hfz k
          have hki : (0 : Int) ≤ (k : Int) := by omega
          have hkj : (k : Int) < (o2.leak.length : Int) := by omega
          obtain ⟨hF2, hT2⟩ := hF.setL hT hg (i := k) hkl (77 + 100 * kk + 1)
          have hll2 : Hid ((ll.set k (77 + 100 * kk + 1)).length = o2.leak.length) := by show _ = _; rw [List.length_set]; exact hll.out
          clear hF hT
          go_wp2
          go_roundw
          case rel => exact ⟨k + 1, ll.set k (77 + 100 * kk + 1), by omega, by go_num, hll2, hF2, hT2⟩
          case measure => simp [intOf]; omega
        · obtain rfl : k = o2.leak.length := by omega
          go_wp2
          go_loopw [19, 20] (fun m i wr => ∃ (k : Nat), k ≤ o2.mem.length ∧ i = .int .i64 k ∧ m = .bool true ∧ Fr w b b2 w.heap.size (w.heap.size + 1) (w.heap.size + 2) O w6.heap.size ga gm gs [.slice ao args.length ac, .slice mo mem.length mc, .slice so spill.length sc] [.slice (some ⟨ga, 0, none⟩) args.length (args.length + 2), .slice (some ⟨gm, 0, none⟩) mem.length (mem.length + 2), .slice (some ⟨gs, 0, none⟩) spill.length (spill.length + 2)] [.int .i64 o2.kind, .int .i64 o2.result, .slice mo' o2.mem.length mc', .slice lo' o2.leak.length lc'] [.int .i64 o2.kind, .int .i64 o2.result, .slice mo2 o2.mem.length mc2, .slice lo2 o2.leak.length lc2] args mem spill o2.mem o2.leak (.slice mo2 o2.mem.length mc2) (.slice lo2 o2.leak.length lc2) wr ∧ Two b b2 (.slice mo' o2.mem.length mc') (.slice lo' o2.leak.length lc') ml ll wr)
            (fun _ i _ => o2.mem.length - (intOf i).toNat)
          case atStart => exact ⟨0, Nat.zero_le _, rfl, rfl, hF, hT⟩
          case round =>
            clear hF hT k3
            obtain ⟨k, hk, rfl, rfl, hF, hT⟩ := hrel
            have k2 := hF.rO.cell (i := 2) rfl
            by_cases hlt : k < o2.mem.length
            · have hkl : k < ml.length := by have := hml.out; omega
              obtain ⟨g, cap', he, hg, hcell, hfz⟩ := OwnW.at (w := wr) (l := ml) (owns_base hT.om (Nat.zero_le _)) (i := k) hkl
              simp only [Value.slice.injEq] at he
              obtain ⟨rfl, _, rfl⟩ := he
              rw [hup.out k hlt] at hcell
              have hki : (0 : Int) ≤ (k : Int) := by omega
              have hkj : (k : Int) < (o2.mem.length : Int) := by omega
              go_wp2
              go_roundw
              case rel => exact ⟨k + 1, by omega, by go_num, rfl, hF, hT⟩
              case measure => simp [intOf]; omega
            · obtain rfl : k = o2.mem.length := by omega
              have j0 := hF.rJ.cell (i := 0) rfl
              have n0 := hF.rI.cell (i := 0) rfl
              go_wp2_with fail
              refine (whole_any ga _ args wr hF.ha (ha.keep hF.below) hla).mono ?_
              rintro e w13 ⟨rfl, hb13⟩
              obtain ⟨hF13, hT13⟩ := hF.step hT hb13
              clear hF hT hb13 j0 n0 k2
              have j1 := hF13.rJ.cell (i := 1) rfl
              have n1 := hF13.rI.cell (i := 1) rfl
              go_wp2_with fail
              refine (whole_any gm _ mem w13 hF13.hm (hm.keep hF13.below) hlm).mono ?_
              rintro e w14 ⟨rfl, hb14⟩
              obtain ⟨hF14, hT14⟩ := hF13.step hT13 hb14
              clear hF13 hT13 hb14 j1 n1
              have j2 := hF14.rJ.cell (i := 2) rfl
              have n2 := hF14.rI.cell (i := 2) rfl
              go_wp2_with fail
              refine (whole_any gs _ spill w14 hF14.hs (hsp.keep hF14.below) hls).mono ?_
              rintro e w15 ⟨rfl, hb15⟩
              obtain ⟨hF15, hT15⟩ := hF14.step hT14 hb15
              clear hF14 hT14 hb15 j2 n2
              have k0 := hF15.rO.cell (i := 0) rfl
              have k1 := hF15.rO.cell (i := 1) rfl
              have k2 := hF15.rO.cell (i := 2) rfl
              have k3 := hF15.rO.cell (i := 3) rfl
              have y0 := hF15.rR.cell (i := 0) rfl
              have y1 := hF15.rR.cell (i := 1) rfl
              have y2 := hF15.rR.cell (i := 2) rfl
              have y3 := hF15.rR.cell (i := 3) rfl
              have f0 := hF15.rR.frozen 0
              have f1 := hF15.rR.frozen 1
              have f2 := hF15.rR.frozen 2
              have f3 := hF15.rR.frozen 3
              have hbE := out4_below hF15.below (show w.heap.size ≤ w.heap.size + 1 by omega) o2.kind o2.result (.slice mo' o2.mem.length mc') (.slice lo' o2.leak.length lc')
              have oME := owns_base (owns_rebase (OwnW.out4 (owns_base hT15.om (Nat.zero_le _)) hF15.rR o2.kind o2.result (.slice mo' o2.mem.length mc') (.slice lo' o2.leak.length lc')) (fun g e => (hT15.om.lt g e).1)) hF15.lb
              have oLE := owns_base (owns_rebase (OwnW.out4 (owns_base hT15.ol (Nat.zero_le _)) hF15.rR o2.kind o2.result (.slice mo' o2.mem.length mc') (.slice lo' o2.leak.length lc')) (fun g e => (hT15.ol.lt g e).1)) hF15.lb
              have HF : Hid (Post (.returned (.tuple #[.agg #[.int .i64 o2.kind, .int .i64 o2.result, .slice mo' o2.mem.length mc', .slice lo' o2.leak.length lc'], .bool true])) (out4 w15 (w.heap.size + 1) o2.kind o2.result (.slice mo' o2.mem.length mc') (.slice lo' o2.leak.length lc'))) := hp _ _ _ _ ml ll _ (by have := hml.out; omega) (by have := hll.out; omega) oME oLE hbE
              clear hp hbE hF15 hT15 oME oLE
              unfold out4 at HF
              go_wp2
              (try simp only [Exit.inBlock, Exit.then])
              refine bodyPost_ret (v := .tuple #[.agg #[.int .i64 o2.kind, .int .i64 o2.result, .slice mo' o2.mem.length mc', .slice lo' o2.leak.length lc'], .bool true]) ?_ rfl ?_
              · simp [results, Tryz.results44, go_sem, y0, y1, y2, y3]
              · exact HF.out

end Go.Proofs.YtblhmeidbjigaabGreatDoor

/- What the steps of All that let something out have in common. -/
set_option linter.unusedSimpArgs false
set_option linter.unusedVariables false
namespace Go.Proofs.YtblhmeidbjigaabGreatDoor
open Go.RowKit

theorem five_any (w : World) (a b c d e : Value) (t : TypeId) : ∀ j u, [a, b, c, d, e][j]? = some u → ((w.alloc (.cells #[a, b, c, d, e] t)).drew).cell? ((⟨w.heap.size, 0, none⟩ : Addr).add j) = some u := by
  intro j u hj
  have r : Row (w.alloc (.cells #[a, b, c, d, e] t)).drew w.heap.size t [a, b, c, d, e] := heap_alloc_new w _
  rw [Addr.add_lit, Nat.zero_add]
  exact r.cell hj

theorem prog_one5 (a b c d : Int) (o : Option Addr) (n m : Nat) : ∀ u ∈ [Value.int .i64 a, .int .i64 b, .int .i64 c, .int .i64 d, .slice o n m], u.oneCell' = true := by
  intro u hu
  simp only [List.mem_cons, List.not_mem_nil, or_false] at hu
  rcases hu with rfl | rfl | rfl | rfl | rfl <;> rfl

theorem four_any (w : World) (a b c d : Value) (t : TypeId) : ∀ j u, [a, b, c, d][j]? = some u → ((w.alloc (.cells #[a, b, c, d] t)).drew).cell? ((⟨w.heap.size, 0, none⟩ : Addr).add j) = some u := by
  intro j u hj
  have r : Row (w.alloc (.cells #[a, b, c, d] t)).drew w.heap.size t [a, b, c, d] := heap_alloc_new w _
  rw [Addr.add_lit, Nat.zero_add]
  exact r.cell hj

theorem out_one4 (a b : Int) (o p : Option Addr) (n m k l : Nat) : ∀ u ∈ [Value.int .i64 a, .int .i64 b, .slice o n m, .slice p k l], u.oneCell' = true := by
  intro u hu
  simp only [List.mem_cons, List.not_mem_nil, or_false] at hu
  rcases hu with rfl | rfl | rfl | rfl <;> rfl

theorem one_any1 (w : World) (a : Value) (t : TypeId) : ∀ j u, [a][j]? = some u → ((w.alloc (.cells #[a] t)).drew).cell? ((⟨w.heap.size, 0, none⟩ : Addr).add j) = some u := by
  intro j u hj
  have r : Row (w.alloc (.cells #[a] t)).drew w.heap.size t [a] := heap_alloc_new w _
  rw [Addr.add_lit, Nat.zero_add]
  exact r.cell hj

theorem slice_one1 (o : Option Addr) (n m : Nat) : ∀ u ∈ [Value.slice o n m], u.oneCell' = true := by
  intro u hu
  rw [List.mem_singleton] at hu
  subst hu
  rfl

section
variable {w0 w w' : World} {n : Nat} {val : Nat → Value} {cnt : Nat → Nat} {cel : Nat → List Value} {ps : List PI} {hs : List HI} {os : List OI} {ms : List MI}

/-- A program and its copy are put down. -/
theorem ASt.addP (h : ASt w0 w n val cnt cel ps hs os ms) (x : PI) (hn : ps.length + 1 ≤ n) {v1 v2 : Value} {cn : Nat} {ce : List Value} (m : Mem8 w' w0.heap.size n (upd (upd val 0 v1) 1 v2) (upd (upd cnt 0 (cnt 0 + 1)) 1 (cn + 1)) (upd (upd cel 0 (cel 0 ++ pC x x.v)) 1 (ce ++ pC x x.v2)))
    (hcn : cn = cnt 1) (hce : ce = cel 1) (s : Same6 w w') (ok : InT w (fun w' => RdBlocks w' x.v x.l) ∧ InT w (fun w' => RdBlocks w' x.v2 x.l)) (hb : Below w0.heap.size w0 w') :
    ∃ val' cnt' cel', ASt w0 w' n val' cnt' cel' (ps ++ [x]) hs os ms := by
  subst hcn
  subst hce
  have o := h.ok.next s
  refine ⟨_, _, _, m, ⟨by simp [upd, o.n0], by simp [upd, o.n1], by simp [upd, o.n2], by simp [upd, o.n3], by simp [upd, o.n4], by simp [upd, o.n5], by simp [upd, o.n6], by simp [upd, o.n7], by simp [upd, o.c0, cP1], by simp [upd, o.c1, cP2], by simp [upd, o.c2], by simp [upd, o.c3], by simp [upd, o.c4], by simp [upd, o.c5], by simp [upd, o.c6], by simp [upd, o.c7], ?_, o.okh, o.oko, o.okm⟩, by simpa using hn, h.lh, h.lo, h.lm, hb⟩
  intro y hy
  rcases List.mem_append.1 hy with hy | hy
  · exact o.okp y hy
  · rw [List.mem_singleton] at hy; subst hy; exact ⟨ok.1.next s, ok.2.next s⟩

theorem ASt.addH (h : ASt w0 w n val cnt cel ps hs os ms) (x : HI) (hn : hs.length + 1 ≤ n) {v1 v2 : Value} {cn : Nat} {ce : List Value} (m : Mem8 w' w0.heap.size n (upd (upd val 2 v1) 3 v2) (upd (upd cnt 2 (cnt 2 + 1)) 3 (cn + 1)) (upd (upd cel 2 (cel 2 ++ [x.v])) 3 (ce ++ [x.v2])))
    (hcn : cn = cnt 3) (hce : ce = cel 3) (s : Same6 w w') (ok : InT w (fun w' => RdHint w' x.v x.l) ∧ InT w (fun w' => RdHint w' x.v2 x.l)) (hb : Below w0.heap.size w0 w') :
    ∃ val' cnt' cel', ASt w0 w' n val' cnt' cel' ps (hs ++ [x]) os ms := by
  subst hcn
  subst hce
  have o := h.ok.next s
  refine ⟨_, _, _, m, ⟨by simp [upd, o.n0], by simp [upd, o.n1], by simp [upd, o.n2], by simp [upd, o.n3], by simp [upd, o.n4], by simp [upd, o.n5], by simp [upd, o.n6], by simp [upd, o.n7], by simp [upd, o.c0], by simp [upd, o.c1], by simp [upd, o.c2, cH1], by simp [upd, o.c3, cH2], by simp [upd, o.c4], by simp [upd, o.c5], by simp [upd, o.c6], by simp [upd, o.c7], o.okp, ?_, o.oko, o.okm⟩, h.lp, by simpa using hn, h.lo, h.lm, hb⟩
  intro y hy
  rcases List.mem_append.1 hy with hy | hy
  · exact o.okh y hy
  · rw [List.mem_singleton] at hy; subst hy; exact ⟨ok.1.next s, ok.2.next s⟩

theorem ASt.addO (h : ASt w0 w n val cnt cel ps hs os ms) (x : OI) (hn : os.length + 1 ≤ n) {v1 v2 : Value} {cn : Nat} {ce : List Value} (m : Mem8 w' w0.heap.size n (upd (upd val 4 v1) 5 v2) (upd (upd cnt 4 (cnt 4 + 1)) 5 (cn + 1)) (upd (upd cel 4 (cel 4 ++ oC x x.m x.q)) 5 (ce ++ oC x x.m2 x.q2)))
    (hcn : cn = cnt 5) (hce : ce = cel 5) (s : Same6 w w') (ok : (InT w (fun w' => RdWords w' x.m x.lm) ∧ InT w (fun w' => RdWords w' x.m2 x.lm)) ∧ (InT w (fun w' => RdWords w' x.q x.lq) ∧ InT w (fun w' => RdWords w' x.q2 x.lq))) (hb : Below w0.heap.size w0 w') :
    ∃ val' cnt' cel', ASt w0 w' n val' cnt' cel' ps hs (os ++ [x]) ms := by
  subst hcn
  subst hce
  have o := h.ok.next s
  refine ⟨_, _, _, m, ⟨by simp [upd, o.n0], by simp [upd, o.n1], by simp [upd, o.n2], by simp [upd, o.n3], by simp [upd, o.n4], by simp [upd, o.n5], by simp [upd, o.n6], by simp [upd, o.n7], by simp [upd, o.c0], by simp [upd, o.c1], by simp [upd, o.c2], by simp [upd, o.c3], by simp [upd, o.c4, cO1], by simp [upd, o.c5, cO2], by simp [upd, o.c6], by simp [upd, o.c7], o.okp, o.okh, ?_, o.okm⟩, h.lp, h.lh, by simpa using hn, h.lm, hb⟩
  intro y hy
  rcases List.mem_append.1 hy with hy | hy
  · exact o.oko y hy
  · rw [List.mem_singleton] at hy; subst hy; exact ⟨⟨ok.1.1.next s, ok.1.2.next s⟩, ⟨ok.2.1.next s, ok.2.2.next s⟩⟩

theorem ASt.addM (h : ASt w0 w n val cnt cel ps hs os ms) (x : MI) (hn : ms.length + 1 ≤ n) {v1 v2 : Value} {cn : Nat} {ce : List Value} (m : Mem8 w' w0.heap.size n (upd (upd val 6 v1) 7 v2) (upd (upd cnt 6 (cnt 6 + 1)) 7 (cn + 1)) (upd (upd cel 6 (cel 6 ++ [x.v])) 7 (ce ++ [x.v2])))
    (hcn : cn = cnt 7) (hce : ce = cel 7) (s : Same6 w w') (ok : InT w (fun w' => RdTexts w' x.v x.l) ∧ InT w (fun w' => RdTexts w' x.v2 x.l)) (hb : Below w0.heap.size w0 w') :
    ∃ val' cnt' cel', ASt w0 w' n val' cnt' cel' ps hs os (ms ++ [x]) := by
  subst hcn
  subst hce
  have o := h.ok.next s
  refine ⟨_, _, _, m, ⟨by simp [upd, o.n0], by simp [upd, o.n1], by simp [upd, o.n2], by simp [upd, o.n3], by simp [upd, o.n4], by simp [upd, o.n5], by simp [upd, o.n6], by simp [upd, o.n7], by simp [upd, o.c0], by simp [upd, o.c1], by simp [upd, o.c2], by simp [upd, o.c3], by simp [upd, o.c4], by simp [upd, o.c5], by simp [upd, o.c6, cM1], by simp [upd, o.c7, cM2], o.okp, o.okh, o.oko, ?_⟩, h.lp, h.lh, h.lo, by simpa using hn, hb⟩
  intro y hy
  rcases List.mem_append.1 hy with hy | hy
  · exact o.okm y hy
  · rw [List.mem_singleton] at hy; subst hy; exact ⟨ok.1.next s, ok.2.next s⟩

end

end Go.Proofs.YtblhmeidbjigaabGreatDoor

/- The step Decode of All. -/
set_option linter.unusedSimpArgs false
set_option linter.unusedVariables false
namespace Go.Proofs.YtblhmeidbjigaabGreatDoor
open Go.RowKit Go.Deep

set_option maxRecDepth 100000 in
set_option maxHeartbeats 4000000 in
theorem step_2 (w0 w : World) (n : Nat) (o : StepD) (val : Nat → Value) (cnt : Nat → Nat) (cel : Nat → List Value) (ps : List PI) (hs : List HI) (os : List OI) (ms : List MI) (h : ASt w0 w n val cnt cel ps hs os ms) (hok : OkStep w0 o) (hn9 : n ≤ 628292358710) (htab : TabW w0) (Post : Ending → World → Prop) (hk : o.kind = 2)
    (hp : ∀ w' val' cnt' cel' ps' hs' os' ms', ASt w0 w' (n + 1) val' cnt' cel' ps' hs' os' ms' → Post (.returned (.bool true)) w') :
    Calls Tryz.prog 28 #[.pointer (some ⟨w0.heap.size, 0, none⟩), .agg (stepC o).toArray] w Post := by
  obtain ⟨i0, ii, iz0, iz1, iz2⟩ := info_parts Tryz.infoProgA
  obtain ⟨kd, s, t, hh, a0, a1, a2, a3, pv, bl, hv, hl, av, mv, sv, la, lm, ls, a, b⟩ := o
  dsimp only at hk
  subst hk
  obtain ⟨zs, zt, zh, kp, kpl, kpo, kg, kgl, kgo, kra, krm, krs, kla, klm, kls⟩ := hok
  dsimp only at zs zt zh kp kpl kpo kg kgl kgo kra krm krs kla klm kls
  obtain ⟨po, pc, rfl, _, _⟩ := id kp
  obtain ⟨ho, hc, rfl, _, _⟩ := id kg
  obtain ⟨ao, ac, rfl, _, _⟩ := id kra
  obtain ⟨mo, mc, rfl, _, _⟩ := id krm
  obtain ⟨so, sc, rfl, _, _⟩ := id krs
  obtain ⟨bn, hbn⟩ : ∃ x, x = bl.length := ⟨_, rfl⟩
  obtain ⟨hn, hhn⟩ : ∃ x, x = hl.length := ⟨_, rfl⟩
  obtain ⟨an, han⟩ : ∃ x, x = la.length := ⟨_, rfl⟩
  obtain ⟨mn, hmn⟩ : ∃ x, x = lm.length := ⟨_, rfl⟩
  obtain ⟨sn, hsn⟩ : ∃ x, x = ls.length := ⟨_, rfl⟩
  show Calls Tryz.prog 28 #[.pointer (some ⟨w0.heap.size, 0, none⟩), .agg #[.int .i64 2, .string s, .string t, .string hh, .int .i64 a0, .int .i64 a1, .int .i64 a2, .int .i64 a3, .slice po bl.length pc, .slice ho hl.length hc, .slice ao la.length ac, .slice mo lm.length mc, .slice so ls.length sc, .int .i64 a, .int .i64 b]] w Post
  rw [← hbn] at kp ⊢
  rw [← hhn] at kg ⊢
  rw [← han] at kra ⊢
  rw [← hmn] at krm ⊢
  rw [← hsn] at krs ⊢
  have hB : w0.heap.size < w.heap.size := h.mem.row.lt
  obtain ⟨W0, hW0⟩ : ∃ x, x = w.setCell ⟨w0.heap.size, 0, none⟩ (.int .i64 ((n : Int) + 1)) := ⟨_, rfl⟩
  have d0 : ∀ o, (w.alloc o).cell? ⟨w0.heap.size, 0, none⟩ = some (.int .i64 (n : Int)) := fun o => (h.mem.row.alloc o).cell (i := 0) rfl
  have g0 : ∀ o, (w.alloc o).frozen? ⟨w0.heap.size, 0, none⟩ = false := fun o => (h.mem.row.alloc o).frozen 0
  have d0' : w.cell? ⟨w0.heap.size, 0, none⟩ = some (.int .i64 (n : Int)) := h.mem.row.cell (i := 0) rfl
  have g0' : w.frozen? ⟨w0.heap.size, 0, none⟩ = false := h.mem.row.frozen 0
  have hA := h.count
  rw [← hW0] at hA
  obtain ⟨W1, hW1⟩ : ∃ x, x = W0.alloc (.cells #[.int .i64 2, .string s, .string t, .string hh, .int .i64 a0, .int .i64 a1, .int .i64 a2, .int .i64 a3, .slice po bn pc, .slice ho hn hc, .slice ao an ac, .slice mo mn mc, .slice so sn sc, .int .i64 a, .int .i64 b] 83) := ⟨_, rfl⟩
  have bA : Below W0.heap.size W0 W1 := by rw [hW1]; exact (Below.refl _ _).alloc (Nat.le_refl _) _
  have h1 := hA.keep bA
  have hz0 : W0.heap.size = w.heap.size := by rw [hW0]; simp
  have rS : Row W1 w.heap.size 83 [.int .i64 2, .string s, .string t, .string hh, .int .i64 a0, .int .i64 a1, .int .i64 a2, .int .i64 a3, .slice po bn pc, .slice ho hn hc, .slice ao an ac, .slice mo mn mc, .slice so sn sc, .int .i64 a, .int .i64 b] := by rw [← hz0, hW1]; exact heap_alloc_new W0 _
  have b1 : Below w0.heap.size w0 W1 := h1.below
  have hlp := h.lp
  have hlh := h.lh
  have hlo := h.lo
  have hlm := h.lm
  have hwn : IntKind.i64.wrap ((n : Int) + 1) = (n : Int) + 1 := by rw [IntKind.wrap_i64]; omega
  have HP := Lib.hid hp
  have H1 := Lib.hid h1
  clear hp h hA bA h1 hbn hhn han hmn hsn hz0
  have x0 := rS.cell (i := 0) rfl
  have y0 : ∀ V, Below W1.heap.size W1 V → V.cell? ⟨w0.heap.size, 0, none⟩ = some (.int .i64 ((n : Int) + 1)) := fun V hV => cell_keep hV (H1.out.mem.row.cell (i := 0) rfl)
  have y1 : ∀ V, Below W1.heap.size W1 V → V.cell? ⟨w.heap.size, 1, none⟩ = some (.string s) := fun V hV => cell_keep hV (rS.cell (i := 1) rfl)
  have k0 : Below W1.heap.size W1 W1.drew := (Below.refl _ _).drew
  have kB : Below W1.heap.size W1 (W1.alloc (.cells #[.int .i64 0, .int .i64 0, .int .i64 0, .int .i64 0, .slice none 0 0] 25)).drew := ((Below.refl _ _).alloc (Nat.le_refl _) _).drew
  have kC : Below W1.heap.size W1 (W1.alloc (.cells #[.int .i64 0, .int .i64 0, .int .i64 0, .int .i64 0, .slice none 0 0] 25)) := (Below.refl _ _).alloc (Nat.le_refl _) _
  have rB : Row (W1.alloc (.cells #[.int .i64 0, .int .i64 0, .int .i64 0, .int .i64 0, .slice none 0 0] 25)).drew W1.heap.size 25 [.int .i64 0, .int .i64 0, .int .i64 0, .int .i64 0, .slice none 0 0] := heap_alloc_new W1 _
  have qd : ∀ V P', Below W1.heap.size W1 V → (∀ a0 a1 a2 a3 v bv w', OwnBlocks w' V.heap.size v bv → (bv.length ≤ 1000 ∧ ∀ x ∈ bv, x.1.ops.length ≤ 1000) → Below V.heap.size V w' → P' (.returned (.tuple #[.agg #[.int .i64 a0, .int .i64 a1, .int .i64 a2, .int .i64 a3, v], .bool true])) w') → Calls Tryz.prog 39 #[.string s, .int .i64 ((n : Int) + 1)] V P' := fun V P' _ hP => decoded2_cps s ((n : Int) + 1) V zs (by omega) P' hP
  rw [hW1, hW0] at x0
  have HW : Hid (W1 = (w.setCell ⟨w0.heap.size, 0, none⟩ (.int .i64 ((n : Int) + 1))).alloc (.cells #[.int .i64 2, .string s, .string t, .string hh, .int .i64 a0, .int .i64 a1, .int .i64 a2, .int .i64 a3, .slice po bn pc, .slice ho hn hc, .slice ao an ac, .slice mo mn mc, .slice so sn sc, .int .i64 a, .int .i64 b] 83)) := by show _ = _; rw [hW1, hW0]
  have HRB := Lib.hid rB
  clear rB rS hW0 hW1 b1 kp kpl kpo kg kgl kgo kra krm krs kla klm kls htab
  go_enter Tryz.func28, Tryz.ntmps28
  go_wp2
  rw [← HW.out]
  clear HW x0 d0 g0 d0' g0'
  go_region_held3 (fun V => Below W1.heap.size W1 V) (first | with_reducible exact k0 | with_reducible exact kB | with_reducible exact kC | with_reducible exact b3 | with_reducible exact k1 | with_reducible exact k2) (first | (go_at_call 39; refine qd _ _ ?_ ?_; exact k0; intro p0 p1 p2 p3 v bv w3 own3 hl3 b3'; obtain ⟨vo, vc, hvv⟩ := owns_slice own3.row; obtain ⟨vn, hvn⟩ : ∃ x, x = bv.length := ⟨_, rfl⟩; rw [← hvn] at hvv; subst hvv; have HVN := Lib.hid hvn; clear hvn; have b3 : Below W1.heap.size W1 w3 := k0.trans (b3'.mono k0.size); have k1 : Below W1.heap.size W1 (w3.alloc (.cells #[.int .i64 0, .int .i64 0, .int .i64 0, .int .i64 0, .slice none 0 0] 25)) := b3.alloc b3.size _; have k2 : Below W1.heap.size W1 (w3.alloc (.cells #[.int .i64 p0, .int .i64 p1, .int .i64 p2, .int .i64 p3, .slice vo vn vc] 25)) := b3.alloc b3.size _) | (go_at_call 39; refine qd _ _ ?_ ?_; exact kB; intro p0 p1 p2 p3 v bv w3 own3 hl3 b3'; obtain ⟨vo, vc, hvv⟩ := owns_slice own3.row; obtain ⟨vn, hvn⟩ : ∃ x, x = bv.length := ⟨_, rfl⟩; rw [← hvn] at hvv; subst hvv; have HVN := Lib.hid hvn; clear hvn; have b3 : Below W1.heap.size W1 w3 := kB.trans (b3'.mono kB.size); have rz := HRB.out.keep b3'; have z0 := rz.cell (i := 0) rfl; have z1 := rz.cell (i := 1) rfl; have z2 := rz.cell (i := 2) rfl; have z3 := rz.cell (i := 3) rfl; have z4 := rz.cell (i := 4) rfl; have f0 := rz.frozen 0; have f1 := rz.frozen 1; have f2 := rz.frozen 2; have f3 := rz.frozen 3; have f4 := rz.frozen 4; have k1 : Below W1.heap.size W1 (set5 w3 W1.heap.size (.int .i64 p0) (.int .i64 p1) (.int .i64 p2) (.int .i64 p3) (.slice vo vn vc)) := set5_below b3 (Nat.le_refl _) _ _ _ _ _; have k2 := k1; unfold set5 at k1))
  all_goals
    first
    | (obtain ⟨X, hX⟩ : ∃ X, X = w3.alloc (.cells #[.int .i64 p0, .int .i64 p1, .int .i64 p2, .int .i64 p3, .slice vo vn vc] 25) := ⟨_, rfl⟩
       rw [← hX]
       have rp : Row X w3.heap.size 25 [.int .i64 p0, .int .i64 p1, .int .i64 p2, .int .i64 p3, .slice vo vn vc] := by rw [hX]; exact heap_alloc_new w3 _
       have ownX : OwnBlocks X W1.heap.size (.slice vo vn vc) bv := by rw [hX]; exact (own3.alloc _).base (by simp)
       have bX := k2
       rw [← hX] at bX
       have hLz : W1.heap.size ≤ w3.heap.size := b3.size
       obtain ⟨Lp, hLp⟩ : ∃ y, y = w3.heap.size := ⟨_, rfl⟩
       rw [← hLp] at rp hLz ⊢
       clear hX hLp)
    | (obtain ⟨X, hX⟩ : ∃ X, X = set5 w3 W1.heap.size (.int .i64 p0) (.int .i64 p1) (.int .i64 p2) (.int .i64 p3) (.slice vo vn vc) := ⟨_, rfl⟩
       have hX' := hX
       unfold set5 at hX'
       rw [← hX']
       have rp : Row X W1.heap.size 25 [.int .i64 p0, .int .i64 p1, .int .i64 p2, .int .i64 p3, .slice vo vn vc] := by rw [hX]; exact rz.on5 _ _ _ _ _
       have ownX : OwnBlocks X W1.heap.size (.slice vo vn vc) bv := by rw [hX']; exact (((((own3.set (by simp) _).set (by simp) _).set (by simp) _).set (by simp) _).set (by simp) _).base (by simp)
       have bX := k2
       rw [← hX] at bX
       have hLz : W1.heap.size ≤ W1.heap.size := Nat.le_refl _
       obtain ⟨Lp, hLp⟩ : ∃ y, y = W1.heap.size := ⟨_, rfl⟩
       rw [← hLp] at rp ⊢
       rw [show W1.heap.size = Lp from hLp.symm] at hLz
       replace hLz : W1.heap.size ≤ Lp := by omega
       clear hX hX' hLp rz)
    have HO := Lib.hid ownX
    have HL3 := Lib.hid hl3
    have HBX := Lib.hid bX
    have e0 := rp.cell (i := 0) rfl
    have e1 := rp.cell (i := 1) rfl
    have e2 := rp.cell (i := 2) rfl
    have e3 := rp.cell (i := 3) rfl
    have e4 := rp.cell (i := 4) rfl
    have HRP := Lib.hid rp
    have hrd := OwnBlocks.rd ownX
    have q8 := fun P' => roomyProg_cps p0 p1 p2 p3 (.slice vo vn vc) (bdat bv) X hrd (by rw [bdat_length]; have := hl3.1; omega) (fun k hk => by
      rw [bdat_length] at hk
      rw [(bdat_get bv hk).1]
      have := hl3.2 _ (List.getElem_mem hk)
      omega) P'
    clear ownX hl3 bX rp hrd own3 b3 b3' k0 kB kC k1 k2 y0 y1 qd HRB
    go_wp2_with fail
    refine q8 _ ?_
    intro w4 bv4 L Dd hbd hlies hL hDd hb4
    obtain ⟨ln, hln⟩ : ∃ x, x = bv4.length := ⟨_, rfl⟩
    rw [← hln]
    obtain ⟨lm1, hlm1⟩ : ∃ x, x = ln + 1 := ⟨_, rfl⟩
    rw [← hlm1]
    obtain ⟨X2, hX2⟩ : ∃ x, x = w4.alloc (.cells #[.int .i64 p0, .int .i64 p1, .int .i64 p2, .int .i64 p3, .slice (some ⟨L, 0, none⟩) ln lm1] 25) := ⟨_, rfl⟩
    have b42 : Below w4.heap.size w4 X2 := by rw [hX2]; exact (Below.refl _ _).alloc (Nat.le_refl _) _
    have rq : Row X2 w4.heap.size 25 [.int .i64 p0, .int .i64 p1, .int .i64 p2, .int .i64 p3, .slice (some ⟨L, 0, none⟩) ln lm1] := by rw [hX2]; exact heap_alloc_new w4 _
    have bX2 : Below X.heap.size X X2 := hb4.trans (b42.mono hb4.size)
    have rp2 := HRP.out.keep bX2
    have hLq : W1.heap.size ≤ w4.heap.size := Nat.le_trans HBX.out.size hb4.size
    have S2 : ASt w0 X2 (n + 1) val cnt cel ps hs os ms := (H1.out.keep HBX.out).keep bX2
    have in1 : InT X2 (fun w' => RdBlocks w' (.slice vo vn vc) (bdat bv)) := (blocks_in HO.out).next (Same6.of_below bX2)
    have in2 : InT X2 (fun w' => RdBlocks w' (.slice (some ⟨L, 0, none⟩) ln lm1) (bdat bv)) := by
      rw [← hbd, hln]
      refine (roomyP_in hlies hL ?_ ?_).next (Same6.of_below b42)
      · have e : bv4.length = bv.length := by have := congrArg List.length hbd; rw [bdat_length, bdat_length] at this; exact this
        have := HL3.out.1
        omega
      · intro x hx
        obtain ⟨i, hi, rfl⟩ := List.getElem_of_mem hx
        have e : bv4.length = bv.length := by have := congrArg List.length hbd; rw [bdat_length, bdat_length] at this; exact this
        have e2 : bv4[i].1.ops = bv[i].1.ops := by rw [← (bdat_get bv4 hi).1, hbd, (bdat_get bv (by omega)).1]
        rw [e2]
        have := HL3.out.2 _ (List.getElem_mem (show i < bv.length by omega))
        omega
    have HM := Lib.hid S2.mem
    have HS2 := Lib.hid S2
    have HIN : Hid (InT X2 (fun w' => RdBlocks w' (.slice vo vn vc) (bdat bv)) ∧ InT X2 (fun w' => RdBlocks w' (.slice (some ⟨L, 0, none⟩) ln lm1) (bdat bv))) := ⟨in1, in2⟩
    have HRP2 := Lib.hid rp2
    have HRQ := Lib.hid rq
    have t0 := rp2.cell (i := 0) rfl
    have t1 := rp2.cell (i := 1) rfl
    have t2 := rp2.cell (i := 2) rfl
    have t3 := rp2.cell (i := 3) rfl
    have t4 := rp2.cell (i := 4) rfl
    have HX2 := Lib.hid hX2
    have hv0 : cnt 0 ≤ n := by rw [S2.ok.n0]; exact hlp
    have hv1 : cnt 1 ≤ n := by rw [S2.ok.n1]; exact hlp
    clear q8 hbd hlies hL hDd hb4 b42 rq bX2 rp2 S2 in1 in2 e0 e1 e2 e3 e4 HRP hln hlm1 hX2
    go_wp2
    rw [← HX2.out]
    clear HX2
    obtain ⟨goA, gcA, hgvA⟩ := owns_slice (HM.out.own 0 (by omega))
    have hgoA := HM.out.own 0 (by omega)
    rw [hgvA] at hgoA
    obtain ⟨gnA, hgnA⟩ : ∃ x, cnt 0 = x := ⟨_, rfl⟩
    obtain ⟨gxA, hgxA⟩ : ∃ x, cel 0 = x := ⟨_, rfl⟩
    rw [hgnA, hgxA] at hgoA
    rw [hgnA] at hgvA
    have grA := HM.out.row.cell (i := 1) rfl
    rw [hgvA] at grA
    have gaA : ∀ o, (X2.alloc o).cell? ⟨w0.heap.size, 1, none⟩ = some (.slice goA gnA gcA) := fun o => by have := (HM.out.row.alloc o).cell (i := 1) rfl; rw [hgvA] at this; exact this
    have hbzA : w0.heap.size < X2.heap.size := HM.out.row.lt
    have glA : gnA ≤ n := by rw [← hgnA]; exact hv0
    go_region_law (refine step_append_own_at rfl (.tmp 55) (.tmp 57) 75 rfl (w0.heap.size + 1) 25 i0 (.agg #[.int .i64 0, .int .i64 0, .int .i64 0, .int .i64 0, .slice none 0 0]) 5 56 Tryz.underlying75 ii iz0 iz1 iz2 rfl (by decide) (.slice goA gnA gcA) gnA gxA (by first | rfl | simp [Act.eval, Act.put]) (owns_below (hgoA.alloc _) ((Below.refl _ _).drew) (Nat.le_refl _)) ⟨X2.heap.size, 0, none⟩ 1 1 [.int .i64 p0, .int .i64 p1, .int .i64 p2, .int .i64 p3, .slice vo vn vc] (by first | rfl | simp [Act.eval, Act.put]) rfl (by intro j u hj; simpa using (five_any X2 (.int .i64 p0) (.int .i64 p1) (.int .i64 p2) (.int .i64 p3) (.slice vo vn vc) 25) j u hj) (prog_one5 _ _ _ _ _ _ _) (by unfold maxLen; omega) (by omega) (by first | omega | (simp; omega)) ?_; intro vA wA hownA hgrowA hlocA; have GA := HM.out.grow (w1 := (X2.alloc (.cells #[.int .i64 p0, .int .i64 p1, .int .i64 p2, .int .i64 p3, .slice vo vn vc] 25)).drew) (((Below.refl _ _).alloc (Nat.le_refl _) _).drew) (k := 0) (by omega) (by rw [hgvA]; exact hgrowA) (by rw [hgnA, hgxA]; exact hownA) (by rw [hgvA]; exact hlocA); have rbA := (((HM.out.row.alloc (.cells #[.int .i64 p0, .int .i64 p1, .int .i64 p2, .int .i64 p3, .slice vo vn vc] 25)).keep (Below.refl _ _).drew).kept (S := fun g => (Value.slice goA gnA gcA).ownBlock = some g) ((Keep.refl _ _).grown hgrowA (fun g e => .inl e)) (fun e => by have := (hgoA.lt w0.heap.size e).1; omega)); have ybA := rbA.cell (i := 1) rfl; have yfA := rbA.frozen 1; obtain ⟨boA, bcA, hvvA⟩ := owns_slice hownA; subst hvvA; have HGA := Lib.hid GA; clear GA rbA hownA hgrowA hlocA)
    all_goals
      obtain ⟨X3, hX3⟩ : ∃ x, x = wA.setCell ⟨w0.heap.size, 1, none⟩ (.slice boA (gnA + 1) bcA) := ⟨_, rfl⟩
      have gA : Mem8 X3 w0.heap.size ((n + 1 : Nat) : Int) (upd val 0 (.slice boA (gnA + 1) bcA)) (upd cnt 0 (cnt 0 + 1)) (upd cel 0 (cel 0 ++ [.int .i64 p0, .int .i64 p1, .int .i64 p2, .int .i64 p3, .slice vo vn vc])) ∧ Same6 X2 X3 ∧ Keep (fun g => (val 0).ownBlock = some g ∨ g = w0.heap.size) X2 X3 := by rw [hX3]; exact HGA.out
      have HMA := Lib.hid gA.1
      have HSA := Lib.hid gA.2.1
      have HKA := Lib.hid gA.2.2
      have hnq : ¬ ((val 0).ownBlock = some w4.heap.size ∨ w4.heap.size = w0.heap.size) := by
        rintro (e | e)
        · have := ((H1.out.mem.own 0 (by omega)).lt _ e).2; omega
        · have := H1.out.mem.row.lt; omega
      have rq3 := HRQ.out.kept gA.2.2 hnq
      have s0 := rq3.cell (i := 0) rfl
      have s1 := rq3.cell (i := 1) rfl
      have s2 := rq3.cell (i := 2) rfl
      have s3 := rq3.cell (i := 3) rfl
      have s4 := rq3.cell (i := 4) rfl
      clear gA HGA rq3 hnq t0 t1 t2 t3 t4 grA gaA ybA yfA hgoA
      go_wp2
      rw [← hX3]
      clear hX3
      obtain ⟨goB, gcB, hgvB⟩ := owns_slice (HMA.out.own 1 (by omega))
      have hgoB := HMA.out.own 1 (by omega)
      rw [hgvB] at hgoB
      obtain ⟨gnB, hgnB⟩ : ∃ x, upd cnt 0 (cnt 0 + 1) 1 = x := ⟨_, rfl⟩
      obtain ⟨gxB, hgxB⟩ : ∃ x, upd cel 0 (cel 0 ++ [.int .i64 p0, .int .i64 p1, .int .i64 p2, .int .i64 p3, .slice vo vn vc]) 1 = x := ⟨_, rfl⟩
      rw [hgnB, hgxB] at hgoB
      rw [hgnB] at hgvB
      have grB := HMA.out.row.cell (i := 2) rfl
      rw [hgvB] at grB
      have gaB : ∀ o, (X3.alloc o).cell? ⟨w0.heap.size, 2, none⟩ = some (.slice goB gnB gcB) := fun o => by have := (HMA.out.row.alloc o).cell (i := 2) rfl; rw [hgvB] at this; exact this
      have hbzB : w0.heap.size < X3.heap.size := HMA.out.row.lt
      have glB : gnB ≤ n := by rw [← hgnB]; exact (by simpa [upd] using hv1)
      go_region_law (refine step_append_own_at rfl (.tmp 65) (.tmp 67) 75 rfl (w0.heap.size + 1) 25 i0 (.agg #[.int .i64 0, .int .i64 0, .int .i64 0, .int .i64 0, .slice none 0 0]) 5 56 Tryz.underlying75 ii iz0 iz1 iz2 rfl (by decide) (.slice goB gnB gcB) gnB gxB (by first | rfl | simp [Act.eval, Act.put]) (owns_below (hgoB.alloc _) ((Below.refl _ _).drew) (Nat.le_refl _)) ⟨X3.heap.size, 0, none⟩ 1 1 [.int .i64 p0, .int .i64 p1, .int .i64 p2, .int .i64 p3, .slice (some ⟨L, 0, none⟩) ln lm1] (by first | rfl | simp [Act.eval, Act.put]) rfl (by intro j u hj; simpa using (five_any X3 (.int .i64 p0) (.int .i64 p1) (.int .i64 p2) (.int .i64 p3) (.slice (some ⟨L, 0, none⟩) ln lm1) 25) j u hj) (prog_one5 _ _ _ _ _ _ _) (by unfold maxLen; omega) (by omega) (by first | omega | (simp; omega)) ?_; intro vB wB hownB hgrowB hlocB; have GB := HMA.out.grow (w1 := (X3.alloc (.cells #[.int .i64 p0, .int .i64 p1, .int .i64 p2, .int .i64 p3, .slice (some ⟨L, 0, none⟩) ln lm1] 25)).drew) (((Below.refl _ _).alloc (Nat.le_refl _) _).drew) (k := 1) (by omega) (by rw [hgvB]; exact hgrowB) (by rw [hgnB, hgxB]; exact hownB) (by rw [hgvB]; exact hlocB); have rbB := (((HMA.out.row.alloc (.cells #[.int .i64 p0, .int .i64 p1, .int .i64 p2, .int .i64 p3, .slice (some ⟨L, 0, none⟩) ln lm1] 25)).keep (Below.refl _ _).drew).kept (S := fun g => (Value.slice goB gnB gcB).ownBlock = some g) ((Keep.refl _ _).grown hgrowB (fun g e => .inl e)) (fun e => by have := (hgoB.lt w0.heap.size e).1; omega)); have ybB := rbB.cell (i := 2) rfl; have yfB := rbB.frozen 2; obtain ⟨boB, bcB, hvvB⟩ := owns_slice hownB; subst hvvB; have HGB := Lib.hid GB; clear GB rbB hownB hgrowB hlocB)
      all_goals
        obtain ⟨X4, hX4⟩ : ∃ x, x = wB.setCell ⟨w0.heap.size, 2, none⟩ (.slice boB (gnB + 1) bcB) := ⟨_, rfl⟩
        have gB : Mem8 X4 w0.heap.size ((n + 1 : Nat) : Int) (upd (upd val 0 (.slice boA (gnA + 1) bcA)) 1 (.slice boB (gnB + 1) bcB)) (upd (upd cnt 0 (cnt 0 + 1)) 1 (upd cnt 0 (cnt 0 + 1) 1 + 1)) (upd (upd cel 0 (cel 0 ++ [.int .i64 p0, .int .i64 p1, .int .i64 p2, .int .i64 p3, .slice vo vn vc])) 1 (upd cel 0 (cel 0 ++ [.int .i64 p0, .int .i64 p1, .int .i64 p2, .int .i64 p3, .slice vo vn vc]) 1 ++ [.int .i64 p0, .int .i64 p1, .int .i64 p2, .int .i64 p3, .slice (some ⟨L, 0, none⟩) ln lm1])) ∧ Same6 X3 X4 ∧ Keep (fun g => (upd val 0 (.slice boA (gnA + 1) bcA) 1).ownBlock = some g ∨ g = w0.heap.size) X3 X4 := by rw [hX4]; exact HGB.out
        have hb3 : Below w0.heap.size w0 X3 := HS2.out.below.trans (HKA.out.toBelow HS2.out.below.size (fun g e => by
          rcases e with e | e
          · have := ((HM.out.own 0 (by omega)).lt g e).1; omega
          · omega))
        have hb4 : Below w0.heap.size w0 X4 := hb3.trans (gB.2.2.toBelow hb3.size (fun g e => by
          rcases e with e | e
          · have := ((HMA.out.own 1 (by omega)).lt g e).1; omega
          · omega))
        obtain ⟨val', cnt', cel', F⟩ := HS2.out.addP ⟨p0, p1, p2, p3, .slice vo vn vc, .slice (some ⟨L, 0, none⟩) ln lm1, bdat bv⟩ (by omega) gB.1 (by simp [upd]) (by simp [upd]) (HSA.out.trans gB.2.1) HIN.out hb4
        have HF := Lib.hid (HP.out X4 _ _ _ _ _ _ _ F)
        rw [hX4] at HF
        clear F gB hb3 hb4 hX4 HGB HP HS2 HM HMA HSA HKA HIN H1
        go_wp2
        first | exact HF.out | (go_ret; exact HF.out)

end Go.Proofs.YtblhmeidbjigaabGreatDoor
