/- Run held against the document's answer. -/
import Derived.Test.YtdjdjkgoelbbdaaLRoomToLSiz
set_option linter.unusedSimpArgs false
set_option linter.unusedVariables false
namespace Go.Proofs.Ytdjdjkgoelbbdaa
open Go.RowKit

theorem roomy_cps' (v : Value) (l : List Int) (w : World) (hr : RdWords w v l) (hn : l.length ≤ 17592186044416) (Post : Ending → World → Prop)
    (hp : ∀ g w', w.heap.size ≤ g → g < w'.heap.size → Room w' g l → Below w.heap.size w w' → Post (.returned (.slice (some ⟨g, 0, none⟩) l.length (l.length + 2))) w') :
    Calls Try.prog 60 #[v] w Post :=
  roomy_cps v l w hr hn Post (fun w' h1 h2 h3 => hp w.heap.size w' (Nat.le_refl _) h3 h1 h2)

/-- A list whose first k words are x. -/
def Upto (l : List Int) (k : Nat) (x : Int) : Prop := ∀ i, i < k → l.getD i 0 = x

theorem Upto.set {l : List Int} {k : Nat} {x : Int} (h : Upto l k x) (hk : k < l.length) : Upto (l.set k x) (k + 1) x := by
  intro i hi
  by_cases e : i = k
  · subst e; simp [List.getD, hk]
  · have := h i (by omega)
    simp only [List.getD] at this ⊢
    rw [List.getElem?_set_ne (by omega)]
    exact this

set_option maxRecDepth 100000 in
set_option maxHeartbeats 4000000 in
theorem ran_cps (s : ByteArray) (av mv0 sv0 : Value) (args mem spill : List Int) (fuel : Int) (w : World) (ha : RdWords w av args) (hm : RdWords w mv0 mem) (hsp : RdWords w sv0 spill) (hla : args.length ≤ 17592186044416) (hlm : mem.length ≤ 17592186044416) (hls : spill.length ≤ 17592186044416) (hs : s.size ≤ maxLen) (Post : Ending → World → Prop)
    (hp : ∀ k r mo mn mc lo ln lc w', Below w.heap.size w w' → Post (.returned (.tuple #[.agg #[.int .i64 k, .int .i64 r, .slice mo mn mc, .slice lo ln lc], .bool true])) w') :
    Calls Try.prog 22 #[.string s, .agg #[av, mv0, sv0], .int .i64 fuel, .int .i64 0] w Post := by
  obtain ⟨ao, ac, rfl, _, _⟩ := id ha
  obtain ⟨mo, mc, rfl, _, _⟩ := id hm
  obtain ⟨so, sc, rfl, _, _⟩ := id hsp
  obtain ⟨W, hW⟩ : ∃ W, W = ((w.alloc (.cells #[.slice ao args.length ac, .slice mo mem.length mc, .slice so spill.length sc] 52)).alloc (.cells #[.int .i64 0, .int .i64 0, .slice none 0 0, .slice none 0 0] 54)).alloc (.cells #[.slice none 0 0, .slice none 0 0, .slice none 0 0] 52) := ⟨_, rfl⟩
  have hzW : w.heap.size + 3 ≤ W.heap.size := by rw [hW]; simp
  have rI : Row W w.heap.size 52 [.slice ao args.length ac, .slice mo mem.length mc, .slice so spill.length sc] := by
    rw [hW]
    have q : Row (w.alloc (.cells #[.slice ao args.length ac, .slice mo mem.length mc, .slice so spill.length sc] 52)) w.heap.size 52 [.slice ao args.length ac, .slice mo mem.length mc, .slice so spill.length sc] := heap_alloc_new w _
    exact (q.alloc _).alloc _
  have rR : Row W (w.heap.size + 1) 54 zOut := by
    rw [hW]
    have q : Row ((w.alloc (.cells #[.slice ao args.length ac, .slice mo mem.length mc, .slice so spill.length sc] 52)).alloc (.cells #[.int .i64 0, .int .i64 0, .slice none 0 0, .slice none 0 0] 54)) (w.heap.size + 1) 54 zOut := heap_alloc2_new w _ _
    exact q.alloc _
  have rJ : Row W (w.heap.size + 2) 52 [.slice none 0 0, .slice none 0 0, .slice none 0 0] := by
    rw [hW]
    have q := heap_alloc2_new (w.alloc (.cells #[.slice ao args.length ac, .slice mo mem.length mc, .slice so spill.length sc] 52)) (.cells #[.int .i64 0, .int .i64 0, .slice none 0 0, .slice none 0 0] 54) (.cells #[.slice none 0 0, .slice none 0 0, .slice none 0 0] 52)
    simp only [World.size_alloc] at q
    exact q
  have hbW : Below w.heap.size w W := by rw [hW]; exact (((Below.refl w.heap.size w).alloc (Nat.le_refl _) _).alloc (by simp) _).alloc (by simp; omega) _
  have c0 := rI.cell (i := 0) rfl
  rw [hW] at c0
  go_enter Try.func22, Try.ntmps22
  go_wp2_with fail
  rw [← hW]
  clear hW c0
  refine roomy_cps' _ args W (ha.keep hbW) hla _ ?_
  intro ga w1 hg1 hlt1 hr1 hb1
  have hz1 : W.heap.size ≤ w1.heap.size := by have := hb1.size; (try simp at this); omega
  have hgz1 : W.heap.size ≤ ga := by (try simp at hg1); omega
  have rI1 := (rI.keep hb1).unset (a := ⟨w.heap.size + 2, 0, none⟩) (by show w.heap.size ≠ w.heap.size + 2; omega) (.slice (some ⟨ga, 0, none⟩) args.length (args.length + 2))
  have rR1 := (rR.keep hb1).unset (a := ⟨w.heap.size + 2, 0, none⟩) (by show w.heap.size + 1 ≠ w.heap.size + 2; omega) (.slice (some ⟨ga, 0, none⟩) args.length (args.length + 2))
  have rK1 := rJ.keep hb1
  have z1 := rK1.cell (i := 0) rfl
  have zf1 := rK1.frozen 0
  have rJ1 := rK1.set 0 (.slice (some ⟨ga, 0, none⟩) args.length (args.length + 2))
  have hbb1 := (hbW.trans (hb1.mono (by (try simp); omega))).setCell (p := ⟨w.heap.size + 2, 0, none⟩) (by show w.heap.size ≤ w.heap.size + 2; omega) (.slice (some ⟨ga, 0, none⟩) args.length (args.length + 2))
  have roomga1 := Row.unset hr1 (a := ⟨w.heap.size + 2, 0, none⟩) (by show ga ≠ w.heap.size + 2; omega) (.slice (some ⟨ga, 0, none⟩) args.length (args.length + 2))
  have c1 := rI1.cell (i := 1) rfl
  go_wp2_with fail
  refine roomy_cps' _ mem _ (hm.keep hbb1) hlm _ ?_
  clear c1 z1 zf1 rK1
  intro gm w2 hg2 hlt2 hr2 hb2
  have hz2 : W.heap.size ≤ w2.heap.size := by have := hb2.size; (try simp at this); omega
  have hgz2 : W.heap.size ≤ gm := by (try simp at hg2); omega
  have rI2 := (rI1.keep hb2).unset (a := ⟨w.heap.size + 2, 1, none⟩) (by show w.heap.size ≠ w.heap.size + 2; omega) (.slice (some ⟨gm, 0, none⟩) mem.length (mem.length + 2))
  have rR2 := (rR1.keep hb2).unset (a := ⟨w.heap.size + 2, 1, none⟩) (by show w.heap.size + 1 ≠ w.heap.size + 2; omega) (.slice (some ⟨gm, 0, none⟩) mem.length (mem.length + 2))
  have rK2 := rJ1.keep hb2
  have z2 := rK2.cell (i := 1) rfl
  have zf2 := rK2.frozen 1
  have rJ2 := rK2.set 1 (.slice (some ⟨gm, 0, none⟩) mem.length (mem.length + 2))
  have hbb2 := (hbb1.trans (hb2.mono (by (try simp); omega))).setCell (p := ⟨w.heap.size + 2, 1, none⟩) (by show w.heap.size ≤ w.heap.size + 2; omega) (.slice (some ⟨gm, 0, none⟩) mem.length (mem.length + 2))
  have roomga12 := Row.unset (Row.keep roomga1 hb2) (a := ⟨w.heap.size + 2, 1, none⟩) (by show ga ≠ w.heap.size + 2; omega) (.slice (some ⟨gm, 0, none⟩) mem.length (mem.length + 2))
  have roomgm2 := Row.unset hr2 (a := ⟨w.heap.size + 2, 1, none⟩) (by show gm ≠ w.heap.size + 2; omega) (.slice (some ⟨gm, 0, none⟩) mem.length (mem.length + 2))
  have c2 := rI2.cell (i := 2) rfl
  go_wp2_with fail
  refine roomy_cps' _ spill _ (hsp.keep hbb2) hls _ ?_
  clear c2 z2 zf2 rK2
  intro gs w3 hg3 hlt3 hr3 hb3
  have hz3 : W.heap.size ≤ w3.heap.size := by have := hb3.size; (try simp at this); omega
  have hgz3 : W.heap.size ≤ gs := by (try simp at hg3); omega
  have rI3 := (rI2.keep hb3).unset (a := ⟨w.heap.size + 2, 2, none⟩) (by show w.heap.size ≠ w.heap.size + 2; omega) (.slice (some ⟨gs, 0, none⟩) spill.length (spill.length + 2))
  have rR3 := (rR2.keep hb3).unset (a := ⟨w.heap.size + 2, 2, none⟩) (by show w.heap.size + 1 ≠ w.heap.size + 2; omega) (.slice (some ⟨gs, 0, none⟩) spill.length (spill.length + 2))
  have rK3 := rJ2.keep hb3
  have z3 := rK3.cell (i := 2) rfl
  have zf3 := rK3.frozen 2
  have rJ3 := rK3.set 2 (.slice (some ⟨gs, 0, none⟩) spill.length (spill.length + 2))
  have hbb3 := (hbb2.trans (hb3.mono (by (try simp); omega))).setCell (p := ⟨w.heap.size + 2, 2, none⟩) (by show w.heap.size ≤ w.heap.size + 2; omega) (.slice (some ⟨gs, 0, none⟩) spill.length (spill.length + 2))
  have roomga123 := Row.unset (Row.keep roomga12 hb3) (a := ⟨w.heap.size + 2, 2, none⟩) (by show ga ≠ w.heap.size + 2; omega) (.slice (some ⟨gs, 0, none⟩) spill.length (spill.length + 2))
  have roomgm23 := Row.unset (Row.keep roomgm2 hb3) (a := ⟨w.heap.size + 2, 2, none⟩) (by show gm ≠ w.heap.size + 2; omega) (.slice (some ⟨gs, 0, none⟩) spill.length (spill.length + 2))
  have roomgs3 := Row.unset hr3 (a := ⟨w.heap.size + 2, 2, none⟩) (by show gs ≠ w.heap.size + 2; omega) (.slice (some ⟨gs, 0, none⟩) spill.length (spill.length + 2))
  have ra : Room _ ga args := roomga123
  have rm : Room _ gm mem := roomgm23
  have rs : Room _ gs spill := roomgs3
  have j0 := rJ3.cell (i := 0) rfl
  have j1 := rJ3.cell (i := 1) rfl
  have j2 := rJ3.cell (i := 2) rfl
  go_wp2_with fail
  refine tRun_cps s _ _ _ args mem spill fuel _ (ra.rd (by omega)) (rm.rd (by omega)) (rs.rd (by omega)) hs _ ?_
  clear j0 j1 j2 z3 zf3 rK3
  intro o e mv lv w4 hans ho
  obtain ⟨b, hb⟩ : ∃ b, b = (w3.setCell ⟨w.heap.size + 2, 2, none⟩ (.slice (some ⟨gs, 0, none⟩) spill.length (spill.length + 2))).heap.size := ⟨_, rfl⟩
  have hbz : b = w3.heap.size := by rw [hb]; simp
  have hoB := ho.below
  have om := ho.mem
  have ol := ho.leak
  rw [← hb] at om ol
  have hlga : ga < b := by have := Row.lt ra; rw [hb]; exact this
  have hlgm : gm < b := by have := Row.lt rm; rw [hb]; exact this
  have hlgs : gs < b := by have := Row.lt rs; rw [hb]; exact this
  have hzb : w.heap.size ≤ b := by omega
  have hz4 : b ≤ w4.heap.size := by rw [hb]; exact hoB.size
  have rI4 := rI3.keep hoB
  have rR4 := rR3.keep hoB
  have rJ4 := rJ3.keep hoB
  have ra4 := ra.keep hoB
  have rm4 := rm.keep hoB
  have rs4 := rs.keep hoB
  have hbb4 := hbb3.trans (hoB.mono (by simp; omega))
  obtain ⟨mo', mc', rfl⟩ := owns_slice om
  obtain ⟨lo', lc', rfl⟩ := owns_slice ol
  obtain ⟨w5, hw5⟩ : ∃ w5, w5 = w4.alloc (.cells #[.int .i64 o.kind, .int .i64 o.result, .slice mo' o.mem.length mc', .slice lo' o.leak.length lc'] 54) := ⟨_, rfl⟩
  have hal : Below w4.heap.size w4 w5 := by rw [hw5]; exact (Below.refl w4.heap.size w4).alloc (Nat.le_refl _) _
  have rO : Row w5 w4.heap.size 54 [.int .i64 o.kind, .int .i64 o.result, .slice mo' o.mem.length mc', .slice lo' o.leak.length lc'] := by rw [hw5]; exact heap_alloc_new w4 _
  have hbb5 := hbb4.trans (hal.mono (by omega))
  have rI5 := rI4.keep hal
  have hz5 : w4.heap.size ≤ w5.heap.size := hal.size
  have i0 := rI5.cell (i := 0) rfl
  have i1 := rI5.cell (i := 1) rfl
  have i2 := rI5.cell (i := 2) rfl
  rw [hw5] at i0 i1 i2
  have hap := ho.apart
  clear hb hbz ho rI rR rJ rI1 rR1 rJ1 rI2 rR2 rJ2 rI3 rR3 rJ3 ra rm rs hb1 hb2 hb3 hr1 hr2 hr3 hbb1 hbb2 hbb3 hoB hbW
  go_wp2_with fail
  rw [← hw5]
  clear hw5 i0 i1 i2
  refine rRun_cps s _ _ _ args mem spill fuel w5 (ha.keep hbb5) (hm.keep hbb5) (hsp.keep hbb5) hs _ ?_
  intro o2 e2 mv2 lv2 w6 hans2 ho2
  obtain ⟨rfl, rfl⟩ := hans2.one hans
  have hsz := hans.sizes
  obtain ⟨mo2, mc2, rfl⟩ := owns_slice ho2.mem
  obtain ⟨lo2, lc2, rfl⟩ := owns_slice ho2.leak
  obtain ⟨w7, hw7⟩ : ∃ w7, w7 = w6.alloc (.cells #[.int .i64 o2.kind, .int .i64 o2.result, .slice mo2 o2.mem.length mc2, .slice lo2 o2.leak.length lc2] 54) := ⟨_, rfl⟩
  have hal2 : Below w6.heap.size w6 w7 := by rw [hw7]; exact (Below.refl w6.heap.size w6).alloc (Nat.le_refl _) _
  have h56 := ho2.below
  have h57 : Below w5.heap.size w5 w7 := h56.trans (hal2.mono h56.size)
  have h47 : Below w4.heap.size w4 w7 := hal.trans (h57.mono hz5)
  have hF : Fr w b w5.heap.size w.heap.size (w.heap.size + 1) (w.heap.size + 2) w4.heap.size w6.heap.size ga gm gs [.slice ao args.length ac, .slice mo mem.length mc, .slice so spill.length sc] [.slice (some ⟨ga, 0, none⟩) args.length (args.length + 2), .slice (some ⟨gm, 0, none⟩) mem.length (mem.length + 2), .slice (some ⟨gs, 0, none⟩) spill.length (spill.length + 2)] [.int .i64 o2.kind, .int .i64 o2.result, .slice mo' o2.mem.length mc', .slice lo' o2.leak.length lc'] [.int .i64 o2.kind, .int .i64 o2.result, .slice mo2 o2.mem.length mc2, .slice lo2 o2.leak.length lc2] args mem spill o2.mem o2.leak (.slice mo2 o2.mem.length mc2) (.slice lo2 o2.leak.length lc2) w7 :=
    ⟨rI4.keep h47, rR4.keep h47, rJ4.keep h47, rO.keep h57, by rw [hw7]; exact heap_alloc_new w6 _, ra4.keep h47, rm4.keep h47, rs4.keep h47, owns_below ho2.mem hal2 (Nat.le_refl _), owns_below ho2.leak hal2 (Nat.le_refl _), hbb4.trans (h47.mono (by omega)), hlga, hlgm, hlgs, hzb, by omega⟩
  have hT : Two b w5.heap.size (.slice mo' o2.mem.length mc') (.slice lo' o2.leak.length lc') o2.mem o2.leak w7 :=
    ⟨owns_below om h47 (Nat.le_refl _), owns_below ol h47 (Nat.le_refl _), hap, fun g q => by have := (om.lt g q).2; omega, fun g q => by have := (ol.lt g q).2; omega⟩
  have k0 := hF.rO.cell (i := 0) rfl
  have k1 := hF.rO.cell (i := 1) rfl
  have k2 := hF.rO.cell (i := 2) rfl
  have k3 := hF.rO.cell (i := 3) rfl
  have q0 := hF.rP.cell (i := 0) rfl
  have q1 := hF.rP.cell (i := 1) rfl
  have q2 := hF.rP.cell (i := 2) rfl
  have q3 := hF.rP.cell (i := 3) rfl
  rw [hw7] at k0 k1 k2 k3 q0 q1 q2 q3
  clear om ol hap rI4 rR4 rJ4 ra4 rm4 rs4 rO rI5 hal hal2 h56 h57 h47 ho2 hans hans2 hbb4
  generalize w5.heap.size = b2 at *
  generalize w4.heap.size = O at *
  go_wp2_with fail
  rw [← hw7]
  clear hw7 k0 k1 k2 k3 q0 q1 q2 q3
  refine (lSameOutcome_any o2.kind o2.result _ _ _ _ o2.mem o2.leak w7 (owns_rd hT.om) (owns_rd hT.ol) (owns_rd hF.m2) (owns_rd hF.l2)).mono ?_
  rintro e w8 ⟨rfl, hb8⟩
  obtain ⟨hF8, hT8⟩ := hF.step hT hb8
  have k2 := hF8.rO.cell (i := 2) rfl
  have hO8 := hF8.rO.lt
  clear hF hT hb8
  go_wp2_with fail
  refine (behind_any b _ o2.mem w8 hT8.om (by omega) hsz.1).mono ?_
  rintro e w9 ⟨rfl, hom, hk9⟩
  obtain ⟨hF9, hT9⟩ := hF8.stepM hT8 hk9 hom
  have k3 := hF9.rO.cell (i := 3) rfl
  have hO9 := hF9.rO.lt
  clear hF8 hT8 hom hk9 k2
  go_wp2_with fail
  refine (behind_any b _ o2.leak w9 hT9.ol (by omega) hsz.2).mono ?_
  rintro e w10 ⟨rfl, hol, hk10⟩
  obtain ⟨hF10, hT10⟩ := hF9.stepL hT9 hk10 hol
  clear hF9 hT9 hol hk10 k3
  have k0 := hF10.rO.cell (i := 0) rfl
  have q0 := hF10.rP.cell (i := 0) rfl
  have k1 := hF10.rO.cell (i := 1) rfl
  have q1 := hF10.rP.cell (i := 1) rfl
  have k2 := hF10.rO.cell (i := 2) rfl
  have q2 := hF10.rP.cell (i := 2) rfl
  have k3 := hF10.rO.cell (i := 3) rfl
  have q3 := hF10.rP.cell (i := 3) rfl
  go_wp2_with fail
  refine (lSameOutcome_any o2.kind o2.result _ _ _ _ o2.mem o2.leak w10 (owns_rd hT10.om) (owns_rd hT10.ol) (owns_rd hF10.m2) (owns_rd hF10.l2)).mono ?_
  rintro e w11 ⟨rfl, hb11⟩
  obtain ⟨hF11, hT11⟩ := hF10.step hT10 hb11
  clear hF10 hT10 hb11 k0 k1 k2 k3 q0 q1 q2 q3
  go_wp2
  go_loopw [16] (fun i wr => ∃ (k : Nat) (ml : List Int), k ≤ o2.mem.length ∧ i = .int .i64 k ∧ Hid (ml.length = o2.mem.length) ∧ Hid (Upto ml k 77) ∧ Fr w b b2 w.heap.size (w.heap.size + 1) (w.heap.size + 2) O w6.heap.size ga gm gs [.slice ao args.length ac, .slice mo mem.length mc, .slice so spill.length sc] [.slice (some ⟨ga, 0, none⟩) args.length (args.length + 2), .slice (some ⟨gm, 0, none⟩) mem.length (mem.length + 2), .slice (some ⟨gs, 0, none⟩) spill.length (spill.length + 2)] [.int .i64 o2.kind, .int .i64 o2.result, .slice mo' o2.mem.length mc', .slice lo' o2.leak.length lc'] [.int .i64 o2.kind, .int .i64 o2.result, .slice mo2 o2.mem.length mc2, .slice lo2 o2.leak.length lc2] args mem spill o2.mem o2.leak (.slice mo2 o2.mem.length mc2) (.slice lo2 o2.leak.length lc2) wr ∧ Two b b2 (.slice mo' o2.mem.length mc') (.slice lo' o2.leak.length lc') ml o2.leak wr)
    (fun i _ => o2.mem.length - (intOf i).toNat)
  case atStart => exact ⟨0, o2.mem, Nat.zero_le _, rfl, rfl, (fun i hi => by omega), hF11, hT11⟩
  case round =>
    clear hF11 hT11
    obtain ⟨k, ml, hk, rfl, hml, hup, hF, hT⟩ := hrel
    have k2 := hF.rO.cell (i := 2) rfl
    by_cases hlt : k < o2.mem.length
    · have hkl : k < ml.length := by have := hml.out; omega
      obtain ⟨g, cap', he, hg, hcell, hfz⟩ := OwnW.at (w := wr) (l := ml) (owns_base hT.om (Nat.zero_le _)) (i := k) hkl
      simp only [Value.slice.injEq] at he
      obtain ⟨rfl, _, rfl⟩ := he
      have ff := hfz k
      have hki : (0 : Int) ≤ (k : Int) := by omega
      have hkj : (k : Int) < (o2.mem.length : Int) := by omega
      obtain ⟨hF2, hT2⟩ := hF.setM hT hg (i := k) hkl 77
      have hml2 : Hid ((ml.set k 77).length = o2.mem.length) := by show _ = _; rw [List.length_set]; exact hml.out
      have hup2 : Hid (Upto (ml.set k 77) (k + 1) 77) := hup.out.set hkl
      clear hF hT
      go_wp2
      go_roundw
      case rel => exact ⟨k + 1, ml.set k 77, by omega, by go_num, hml2, hup2, hF2, hT2⟩
      case measure => simp [intOf]; omega
    · obtain rfl : k = o2.mem.length := by omega
      have k3 := hF.rO.cell (i := 3) rfl
      have q3 := hF.rP.cell (i := 3) rfl
      go_wp2_with fail
      refine (lSameInts_any _ _ o2.leak wr (owns_rd hT.ol) (owns_rd hF.l2)).mono ?_
      rintro e w12 ⟨rfl, hb12⟩
      obtain ⟨hF12, hT12⟩ := hF.step hT hb12
      clear hF hT hb12 k2 k3 q3
      go_wp2
      go_loopw [18] (fun i wr => ∃ (k : Nat) (ll : List Int), k ≤ o2.leak.length ∧ i = .int .i64 k ∧ Hid (ll.length = o2.leak.length) ∧ Fr w b b2 w.heap.size (w.heap.size + 1) (w.heap.size + 2) O w6.heap.size ga gm gs [.slice ao args.length ac, .slice mo mem.length mc, .slice so spill.length sc] [.slice (some ⟨ga, 0, none⟩) args.length (args.length + 2), .slice (some ⟨gm, 0, none⟩) mem.length (mem.length + 2), .slice (some ⟨gs, 0, none⟩) spill.length (spill.length + 2)] [.int .i64 o2.kind, .int .i64 o2.result, .slice mo' o2.mem.length mc', .slice lo' o2.leak.length lc'] [.int .i64 o2.kind, .int .i64 o2.result, .slice mo2 o2.mem.length mc2, .slice lo2 o2.leak.length lc2] args mem spill o2.mem o2.leak (.slice mo2 o2.mem.length mc2) (.slice lo2 o2.leak.length lc2) wr ∧ Two b b2 (.slice mo' o2.mem.length mc') (.slice lo' o2.leak.length lc') ml ll wr)
        (fun i _ => o2.leak.length - (intOf i).toNat)
      case atStart => exact ⟨0, o2.leak, Nat.zero_le _, rfl, rfl, hF12, hT12⟩
      case round =>
        clear hF12 hT12
        obtain ⟨k, ll, hk, rfl, hll, hF, hT⟩ := hrel
        have k3 := hF.rO.cell (i := 3) rfl
        by_cases hlt : k < o2.leak.length
        · have hkl : k < ll.length := by have := hll.out; omega
          obtain ⟨g, cap', he, hg, hcell, hfz⟩ := OwnW.at (w := wr) (l := ll) (owns_base hT.ol (Nat.zero_le _)) (i := k) hkl
          simp only [Value.slice.injEq] at he
          obtain ⟨rfl, _, rfl⟩ := he
          have ff := hfz k
          have hki : (0 : Int) ≤ (k : Int) := by omega
          have hkj : (k : Int) < (o2.leak.length : Int) := by omega
          obtain ⟨hF2, hT2⟩ := hF.setL hT hg (i := k) hkl 78
          have hll2 : Hid ((ll.set k 78).length = o2.leak.length) := by show _ = _; rw [List.length_set]; exact hll.out
          clear hF hT
          go_wp2
          go_roundw
          case rel => exact ⟨k + 1, ll.set k 78, by omega, by go_num, hll2, hF2, hT2⟩
          case measure => simp [intOf]; omega
        · obtain rfl : k = o2.leak.length := by omega
          go_wp2
          go_loopw [19, 20] (fun m i wr => ∃ (k : Nat), k ≤ o2.mem.length ∧ i = .int .i64 k ∧ m = .bool true ∧ Fr w b b2 w.heap.size (w.heap.size + 1) (w.heap.size + 2) O w6.heap.size ga gm gs [.slice ao args.length ac, .slice mo mem.length mc, .slice so spill.length sc] [.slice (some ⟨ga, 0, none⟩) args.length (args.length + 2), .slice (some ⟨gm, 0, none⟩) mem.length (mem.length + 2), .slice (some ⟨gs, 0, none⟩) spill.length (spill.length + 2)] [.int .i64 o2.kind, .int .i64 o2.result, .slice mo' o2.mem.length mc', .slice lo' o2.leak.length lc'] [.int .i64 o2.kind, .int .i64 o2.result, .slice mo2 o2.mem.length mc2, .slice lo2 o2.leak.length lc2] args mem spill o2.mem o2.leak (.slice mo2 o2.mem.length mc2) (.slice lo2 o2.leak.length lc2) wr ∧ Two b b2 (.slice mo' o2.mem.length mc') (.slice lo' o2.leak.length lc') ml ll wr)
            (fun _ i _ => o2.mem.length - (intOf i).toNat)
          case atStart => exact ⟨0, Nat.zero_le _, rfl, rfl, hF, hT⟩
          case round =>
            clear hF hT k3
            obtain ⟨k, hk, rfl, rfl, hF, hT⟩ := hrel
            have k2 := hF.rO.cell (i := 2) rfl
            by_cases hlt : k < o2.mem.length
            · have hkl : k < ml.length := by have := hml.out; omega
              obtain ⟨g, cap', he, hg, hcell, hfz⟩ := OwnW.at (w := wr) (l := ml) (owns_base hT.om (Nat.zero_le _)) (i := k) hkl
              simp only [Value.slice.injEq] at he
              obtain ⟨rfl, _, rfl⟩ := he
              rw [hup.out k hlt] at hcell
              have hki : (0 : Int) ≤ (k : Int) := by omega
              have hkj : (k : Int) < (o2.mem.length : Int) := by omega
              go_wp2
              go_roundw
              case rel => exact ⟨k + 1, by omega, by go_num, rfl, hF, hT⟩
              case measure => simp [intOf]; omega
            · obtain rfl : k = o2.mem.length := by omega
              have j0 := hF.rJ.cell (i := 0) rfl
              have n0 := hF.rI.cell (i := 0) rfl
              go_wp2_with fail
              refine (whole_any ga _ args wr hF.ha (ha.keep hF.below) hla).mono ?_
              rintro e w13 ⟨rfl, hb13⟩
              obtain ⟨hF13, hT13⟩ := hF.step hT hb13
              clear hF hT hb13 j0 n0 k2
              have j1 := hF13.rJ.cell (i := 1) rfl
              have n1 := hF13.rI.cell (i := 1) rfl
              go_wp2_with fail
              refine (whole_any gm _ mem w13 hF13.hm (hm.keep hF13.below) hlm).mono ?_
              rintro e w14 ⟨rfl, hb14⟩
              obtain ⟨hF14, hT14⟩ := hF13.step hT13 hb14
              clear hF13 hT13 hb14 j1 n1
              have j2 := hF14.rJ.cell (i := 2) rfl
              have n2 := hF14.rI.cell (i := 2) rfl
              go_wp2_with fail
              refine (whole_any gs _ spill w14 hF14.hs (hsp.keep hF14.below) hls).mono ?_
              rintro e w15 ⟨rfl, hb15⟩
              obtain ⟨hF15, hT15⟩ := hF14.step hT14 hb15
              clear hF14 hT14 hb15 j2 n2
              have k0 := hF15.rO.cell (i := 0) rfl
              have k1 := hF15.rO.cell (i := 1) rfl
              have k2 := hF15.rO.cell (i := 2) rfl
              have k3 := hF15.rO.cell (i := 3) rfl
              have y0 := hF15.rR.cell (i := 0) rfl
              have y1 := hF15.rR.cell (i := 1) rfl
              have y2 := hF15.rR.cell (i := 2) rfl
              have y3 := hF15.rR.cell (i := 3) rfl
              have f0 := hF15.rR.frozen 0
              have f1 := hF15.rR.frozen 1
              have f2 := hF15.rR.frozen 2
              have f3 := hF15.rR.frozen 3
              have hbE := out4_below hF15.below (show w.heap.size ≤ w.heap.size + 1 by omega) o2.kind o2.result (.slice mo' o2.mem.length mc') (.slice lo' o2.leak.length lc')
              have HF : Hid (Post (.returned (.tuple #[.agg #[.int .i64 o2.kind, .int .i64 o2.result, .slice mo' o2.mem.length mc', .slice lo' o2.leak.length lc'], .bool true])) (out4 w15 (w.heap.size + 1) o2.kind o2.result (.slice mo' o2.mem.length mc') (.slice lo' o2.leak.length lc'))) := hp _ _ _ _ _ _ _ _ _ hbE
              clear hp hbE hF15 hT15
              unfold out4 at HF
              go_wp2
              (try simp only [Exit.inBlock, Exit.then])
              refine bodyPost_ret (v := .tuple #[.agg #[.int .i64 o2.kind, .int .i64 o2.result, .slice mo' o2.mem.length mc', .slice lo' o2.leak.length lc'], .bool true]) ?_ rfl ?_
              · simp [results, Try.results22, go_sem, y0, y1, y2, y3]
              · exact HF.out

end Go.Proofs.Ytdjdjkgoelbbdaa
