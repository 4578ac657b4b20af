/- The code's blocks: Paired. -/
import Derived.Test.YtblhmeidbjigaaaGreatDoorRows
import Derived.WalkKit
import Derived.WalkSpells
import Derived.WalkLawsBesides
import Derived.Laws.BytesArg
import Derived.Deep.QuietTactic
import Derived.BigQuiet
import Derived.Deep.RegionHeld3
import Derived.Lib.ItoaNum
import Derived.Lib.ItoaLen
import Derived.OpenShut
import Derived.Maps.AppendAt
import Derived.Shelf.Strconv.Itoa3
import Derived.Shelf.Lay
import Derived.Ground.NamesProg
import Derived.Lib.SmallJoins
import Derived.Lib.Hide
import Derived.StillTailTactics
import Derived.Test.YtblhmeidbjigaaaGreatDoorCCpIToCCpJRenamed

set_option linter.unusedSimpArgs false
set_option linter.unusedVariables false
namespace Go.Proofs.YtblhmeidbjigaaaGreatDoor
open Go.RowKit

theorem cell_lt {w : World} {b o : Nat} {v : Value} (h : w.cell? ⟨b, o, none⟩ = some v) : b < w.heap.size := by
  unfold World.cell? at h
  rcases Nat.lt_or_ge b w.heap.size with q | q
  · exact q
  · simp [Array.getElem?_eq_none q] at h

set_option maxRecDepth 100000 in
set_option maxHeartbeats 4000000 in
theorem cPaired_cps (p : ProgD) (pv : Value) (b : Nat) (n : Nat) (hn : (n : Int) = p.regs + p.slots) (hg : progGood p = true) (hb : b < p.blocks.length) (w : World) (qs : List PairD) (qv : Value) (hqd : ∀ j k, j < k → k < qs.length → pplace qs j ≠ pplace qs k) (hqp : ∀ x ∈ qs, 0 ≤ x.reg ∧ x.reg ≤ 1000 ∧ 0 ≤ x.place ∧ x.place < p.regs + p.slots) (hqr : RdPairs w qv qs) (hrd : RdBlocks w pv p.blocks) (ht : TabW w) (Post : Ending → World → Prop)
    (hbig : bigT p.regs p.slots (namesOf qs n) (bops p.blocks b) = true → ∀ v w' f c ms, StV w w' v n f c ms true p.regs p.data → Below w.heap.size w w' → Post (.returned v) w')
    (hok : bigT p.regs p.slots (namesOf qs n) (bops p.blocks b) = false → ∀ v w', StV w w' v n (fun i : Nat => behindT p.regs p.slots (namesOf qs n) (bops p.blocks b) (bops p.blocks b).length (i : Int)) (behindT p.regs p.slots (namesOf qs n) (bops p.blocks b) (bops p.blocks b).length (n : Int)) (marksT p.regs p.slots p.data (namesOf qs n) (bops p.blocks b) (bops p.blocks b).length) false p.regs p.data → Below w.heap.size w w' → Post (.returned v) w') :
    Calls Tryz.prog 154 #[progV p pv, .int .i64 b, qv] w Post := by
  obtain ⟨hr, hargs, hdata, hs⟩ := good_shape hg
  obtain ⟨h12, hops⟩ := good_block hg hb
  obtain ⟨bo, bc, hpv, hll, hcc⟩ := id hrd
  obtain ⟨bn, hbn⟩ : ∃ bn, bn = p.blocks.length := ⟨_, rfl⟩
  rw [← hbn] at hpv
  subst hpv
  have HBN := Lib.hid hbn
  clear hbn
  obtain ⟨bb, boff, sv, rfl, y0, y1, y2, y3, y4, hro⟩ := hcc b hb
  clear hcc
  obtain ⟨qo, qcap, rfl, hql, hqc⟩ := id hqr
  have hb0 : Below w.heap.size w ((w.alloc (.cells #[.int .i64 p.args, .int .i64 p.regs, .int .i64 p.data, .int .i64 p.slots, .slice (some ⟨bb, boff, none⟩) bn bc] 33)).alloc (.cells #[.slice none 0 0, .int .i64 0, .int .i64 0, .slice none 0 0, .int .i64 0, .string ⟨#[]⟩, .slice none 0 0, .bool false, .int .i64 0, .int .i64 0] 121)) := ((Below.refl _ _).alloc (Nat.le_refl _) _).alloc (by simp) _
  have ro : Row ((w.alloc (.cells #[.int .i64 p.args, .int .i64 p.regs, .int .i64 p.data, .int .i64 p.slots, .slice (some ⟨bb, boff, none⟩) bn bc] 33)).alloc (.cells #[.slice none 0 0, .int .i64 0, .int .i64 0, .slice none 0 0, .int .i64 0, .string ⟨#[]⟩, .slice none 0 0, .bool false, .int .i64 0, .int .i64 0] 121)) w.heap.size 33 [.int .i64 p.args, .int .i64 p.regs, .int .i64 p.data, .int .i64 p.slots, .slice (some ⟨bb, boff, none⟩) bn bc] := Row.alloc (heap_alloc_new w _) _
  have rg : Row ((w.alloc (.cells #[.int .i64 p.args, .int .i64 p.regs, .int .i64 p.data, .int .i64 p.slots, .slice (some ⟨bb, boff, none⟩) bn bc] 33)).alloc (.cells #[.slice none 0 0, .int .i64 0, .int .i64 0, .slice none 0 0, .int .i64 0, .string ⟨#[]⟩, .slice none 0 0, .bool false, .int .i64 0, .int .i64 0] 121)) (w.heap.size + 1) 121 [.slice none 0 0, .int .i64 0, .int .i64 0, .slice none 0 0, .int .i64 0, .string ⟨#[]⟩, .slice none 0 0, .bool false, .int .i64 0, .int .i64 0] := heap_alloc2_new w _ _
  have HZ : Hid (((w.alloc (.cells #[.int .i64 p.args, .int .i64 p.regs, .int .i64 p.data, .int .i64 p.slots, .slice (some ⟨bb, boff, none⟩) bn bc] 33)).alloc (.cells #[.slice none 0 0, .int .i64 0, .int .i64 0, .slice none 0 0, .int .i64 0, .string ⟨#[]⟩, .slice none 0 0, .bool false, .int .i64 0, .int .i64 0] 121)).heap.size = w.heap.size + 2) := by show _ = _; simp
  have q1 := fun P' => cBegin_cps p.args p.regs p.data p.slots (.slice (some ⟨bb, boff, none⟩) bn bc) ⟨_, _, _, rfl⟩ n hn (by omega) (by omega) ((w.alloc (.cells #[.int .i64 p.args, .int .i64 p.regs, .int .i64 p.data, .int .i64 p.slots, .slice (some ⟨bb, boff, none⟩) bn bc] 33)).alloc (.cells #[.slice none 0 0, .int .i64 0, .int .i64 0, .slice none 0 0, .int .i64 0, .string ⟨#[]⟩, .slice none 0 0, .bool false, .int .i64 0, .int .i64 0] 121)) (ht.keep hb0) P'
  have HRO := Lib.hid ro
  have HRG := Lib.hid rg
  have HB0 := Lib.hid hb0
  have HT := Lib.hid ht
  have HP1 := Lib.hid hbig
  have HP2 := Lib.hid hok
  have HR := Lib.hid hrd
  have HOPS := Lib.hid hro
  have HN := Lib.hid hn
  have Hn1 : n ≤ 200 := by omega
  have Hn2 : p.regs ≤ n := by omega
  unfold progV
  clear hbig hok ro rg hb0 ht hrd hn hro
  go_enter Tryz.func154, Tryz.ntmps154
  go_wp2_with fail
  refine q1 _ ?_
  intro P cap w1 hP hP' hpl b1 hz1
  have hzz := HZ.out
  have hX : Below w1.heap.size w1 (w1.alloc (.cells #[.slice (some ⟨P, 0, none⟩) n cap, .int .i64 0, .int .i64 0, .slice none 0 0, .int .i64 1, .string ⟨#[109]⟩, .slice none 0 0, .bool false, .int .i64 p.regs, .int .i64 p.data] 121)) := (Below.refl _ _).alloc (Nat.le_refl _) _
  have hzX : w1.heap.size + 1 ≤ (w1.alloc (.cells #[.slice (some ⟨P, 0, none⟩) n cap, .int .i64 0, .int .i64 0, .slice none 0 0, .int .i64 1, .string ⟨#[109]⟩, .slice none 0 0, .bool false, .int .i64 p.regs, .int .i64 p.data] 121)).heap.size := by simp
  have U1 : StU (w.heap.size + 2) (w1.heap.size + 1) (w1.alloc (.cells #[.slice (some ⟨P, 0, none⟩) n cap, .int .i64 0, .int .i64 0, .slice none 0 0, .int .i64 1, .string ⟨#[109]⟩, .slice none 0 0, .bool false, .int .i64 p.regs, .int .i64 p.data] 121)) w1.heap.size P cap n (fun i => .leaf 102 i) (fun _ => .slice none 0 0) (.leaf 103 0) (.slice none 0 0) [] (.slice none 0 0) false p.regs p.data := by
    refine ⟨?_, ⟨hpl.keep hX, fun i hi => ⟨rfl, hzX⟩, ⟨rfl, hzX⟩, World.ownsRow_nil _ _ _ _, by rw [hzz] at hP; exact hP, by omega⟩, by rw [hzz] at hz1; omega, by omega, by omega⟩
    have := heap_alloc_new w1 (.cells #[.slice (some ⟨P, 0, none⟩) n cap, .int .i64 0, .int .i64 0, .slice none 0 0, .int .i64 1, .string ⟨#[109]⟩, .slice none 0 0, .bool false, .int .i64 p.regs, .int .i64 p.data] 121)
    exact this
  have hBX : Below (w.heap.size + 2) ((w.alloc (.cells #[.int .i64 p.args, .int .i64 p.regs, .int .i64 p.data, .int .i64 p.slots, .slice (some ⟨bb, boff, none⟩) bn bc] 33)).alloc (.cells #[.slice none 0 0, .int .i64 0, .int .i64 0, .slice none 0 0, .int .i64 0, .string ⟨#[]⟩, .slice none 0 0, .bool false, .int .i64 0, .int .i64 0] 121)) (w1.alloc (.cells #[.slice (some ⟨P, 0, none⟩) n cap, .int .i64 0, .int .i64 0, .slice none 0 0, .int .i64 1, .string ⟨#[109]⟩, .slice none 0 0, .bool false, .int .i64 p.regs, .int .i64 p.data] 121)) := by
    rw [hzz] at b1
    exact b1.trans (hX.mono (by rw [hzz] at hz1; omega))
  have H0 : StAt (w.heap.size + 2) (w1.heap.size + 1) (w1.alloc (.cells #[.slice (some ⟨P, 0, none⟩) n cap, .int .i64 0, .int .i64 0, .slice none 0 0, .int .i64 1, .string ⟨#[109]⟩, .slice none 0 0, .bool false, .int .i64 p.regs, .int .i64 p.data] 121)) w1.heap.size P cap n (pairT (qs.take 0)) (.leaf 103 0) [] false p.regs p.data := U1.at.congr (fun i _ => by simp [pairT]) rfl rfl rfl
  have HH0 := Lib.hid H0
  have HBX := Lib.hid hBX
  clear q1 hpl b1 hX hzX U1 H0 hBX hz1 hzz hP hP'
  go_wp2
  generalize w1.heap.size + 1 = Lo at *
  generalize w1.heap.size = M at *
  go_loopw [8] (fun i wr => ∃ (k : Nat), k ≤ qs.length ∧ i = .int .i64 k ∧ StAt (w.heap.size + 2) Lo wr M P cap n (pairT (qs.take k)) (.leaf 103 0) [] false p.regs p.data ∧ Below (w.heap.size + 2) ((w.alloc (.cells #[.int .i64 p.args, .int .i64 p.regs, .int .i64 p.data, .int .i64 p.slots, .slice (some ⟨bb, boff, none⟩) bn bc] 33)).alloc (.cells #[.slice none 0 0, .int .i64 0, .int .i64 0, .slice none 0 0, .int .i64 0, .string ⟨#[]⟩, .slice none 0 0, .bool false, .int .i64 0, .int .i64 0] 121)) wr)
    (fun i _ => qs.length - (intOf i).toNat)
  case atStart => exact ⟨0, Nat.zero_le _, rfl, HH0.out, HBX.out⟩
  case round =>
    clear HH0 HBX
    obtain ⟨k, hk, rfl, hst, hB⟩ := hrel
    have hzz := HZ.out
    have ro := HRO.out.below hB (by omega)
    have x1 := ro.cell (i := 1) rfl
    have hBw : Below w.heap.size w wr := HB0.out.trans (hB.mono (by omega))
    by_cases hlt : k < qs.length
    · obtain ⟨ps, pc, mv, U⟩ := hst
      have d0 : Below wr.heap.size wr wr.drew := (Below.refl _ _).drew
      have nM : M ≠ P := Ne.symm U.ne
      have m0 := fun V (h : Keep (fun g => g = P) wr V) => h.cell nM (U.row.cell (i := 0) rfl)
      have k0 : Keep (fun g => g = P) wr wr.drew := (Keep.refl _ _).below d0 (Nat.le_refl _)
      obtain ⟨hqx1, hqx2, hqx3, hqx4⟩ := hqp (qs.getD k pz) (getD_mem' hlt)
      obtain ⟨e, he⟩ := Int.eq_ofNat_of_zero_le hqx3
      have he' : pplace qs k = (e : Int) := he
      obtain ⟨qb, qoff, hqo, g0, g1⟩ := hqc k hlt
      subst hqo
      have hqi : (0 : Int) ≤ (k : Int) := by omega
      have hqj : (k : Int) < (qs.length : Int) := by omega
      have ha : e < n := by have h4 : (qs.getD k pz).place < p.regs + p.slots := hqx4; rw [he] at h4; have := HN.out; omega
      have hBq := hBw
      have g0' := fun V (h : Keep (fun g => g = P) wr V) => h.cell (b := qb) (o := qoff + k * 2) (by have := U.b.hP; have := cell_lt g0; omega) (cell_keep hBq g0)
      have g1' := fun V (h : Keep (fun g => g = P) wr V) => h.cell (b := qb) (o := qoff + k * 2 + 1) (by have := U.b.hP; have := cell_lt g0; omega) (cell_keep hBq g1)
      rw [he'] at g1'
      have hw : W64 (preg qs k) := by
        have h1 : 0 ≤ preg qs k := hqx1
        have h2 : preg qs k ≤ 1000 := hqx2
        constructor <;> omega
      have hstep := Lib.hid (fun i : Nat => pair_step hlt he' (fun j hj => hqd j k hj hlt) i)
      clear hqx1 hqx2 hqx3 hqx4 he he' g0 g1
      have hai : (0 : Int) ≤ (e : Int) := by omega
      have haj : (e : Int) < (n : Int) := by omega
      have q2 := cOfRegister_any (preg qs k) hw wr.drew (HT.out.keep (hBw.trans (d0.mono hBw.size)))
      unfold termV at q2
      have HU := Lib.hid U
      have HBr := Lib.hid hB
      have hreg : (k : Int) < p.regs ∨ True := .inr trivial
      clear U ro hB hBw hreg
      go_wp2
      go_region_held3 (fun V => Keep (fun g => g = P) wr V) (first | with_reducible exact k0 | with_reducible exact k2 | with_reducible exact k3) (first | (go_at_call 105; refine q2.mono ?_; rintro er w2 ⟨rfl, b2⟩; have b3 : Below wr.heap.size wr w2 := d0.trans (b2.mono d0.size); have k2 : Keep (fun g => g = P) wr w2 := (Keep.refl _ _).below b3 (Nat.le_refl _); have U2 := HU.out.next b3; have p2 : PartsAt Lo w2 (.leaf 101 (preg qs k)) (.slice none 0 0) := ⟨rfl, U2.b.pc.lo⟩; have U5 := U2.place ha p2; have HM5 := ((Mv.of b3 HU.out.le : Mv (w.heap.size + 2) Lo wr w2)).putT U2.b.hP U2.b.hP' (e * 5) (.leaf 101 (preg qs k)) (.slice none 0 0); have HU5 := Lib.hid (And.intro U5.at HM5.low); unfold putT put5 at HU5; have k3 := ((((k2.setCell (p := ⟨P, e * 5, none⟩) (.inl rfl) (.int .i64 (ckind (.leaf 101 (preg qs k))))).setCell (p := ⟨P, e * 5 + 1, none⟩) (.inl rfl) (.int .i64 (cval (.leaf 101 (preg qs k))))).setCell (p := ⟨P, e * 5 + 2, none⟩) (.inl rfl) (.slice none 0 0)).setCell (p := ⟨P, e * 5 + 3, none⟩) (.inl rfl) (.int .i64 (TD.size (.leaf 101 (preg qs k))))).setCell (p := ⟨P, e * 5 + 4, none⟩) (.inl rfl) (.string (str (showT (.leaf 101 (preg qs k))))); have h0 := U2.b.pl.frozen (e * 5); have h1 := U2.b.pl.frozen (e * 5 + 1); have h2 := U2.b.pl.frozen (e * 5 + 2); have h3 := U2.b.pl.frozen (e * 5 + 3); have h4 := U2.b.pl.frozen (e * 5 + 4); have s0 := U2.b.pl.cell (j := 0) ha rfl; have s1 := U2.b.pl.cell (j := 1) ha rfl; have s2 := U2.b.pl.cell (j := 2) ha rfl; have s3 := U2.b.pl.cell (j := 3) ha rfl; have s4 := U2.b.pl.cell (j := 4) ha rfl; rw [Nat.add_zero] at s0; obtain ⟨qo', qn', qc', hpq⟩ := (U2.b.parts e ha).slice; rw [hpq] at s2; clear hpq U5 HM5))
      go_wp2
      have h9 := HU5.out.1.congr (g := (pairT (qs.take (k + 1)))) (fun i _ => hstep.out i) rfl rfl rfl
      have b9 := HBr.out.trans HU5.out.2
      clear HU5 HU HBr U2 k0 k2 k3 b2 b3 q2
      go_roundw
      case rel => exact ⟨k + 1, by omega, by go_num, h9, b9⟩
      case measure => simp [intOf]; omega
    · obtain rfl : k = qs.length := by omega
      have hend : ¬ (((qs.length : Nat) : Int) < (qs.length : Int)) := by omega
      have x4 := ro.cell (i := 4) rfl
      have e0 := cell_keep hBw y0
      have hbi : (0 : Int) ≤ (b : Int) := by omega
      have hbj : (b : Int) < (bn : Int) := by have := HBN.out; omega
      have hst2 : StAt (w.heap.size + 2) Lo wr M P cap n (fun i : Nat => firstT (namesOf qs n) (i : Int)) (firstT (namesOf qs n) (n : Int)) [] false p.regs p.data := hst.congr (fun i hi => by rw [List.take_length]; exact pair_first (fun x hx => (hqp x hx).1) hi) (by rw [first_end (names_length qs n)]) rfl rfl
      have q3 := fun P' => cDoAll_cps hst2 HN.out (by omega) (by omega) (names_small (fun x hx => (hqp x hx).2.1) n) (bops p.blocks b) h12 hops sv (fun V hv => HOPS.out.keep (hBw.trans (hv.mono (by omega)))) (fun V hv => HT.out.keep (hBw.trans (hv.mono (by omega)))) P'
      obtain ⟨so, sn, sc, rfl⟩ : ∃ so sn sc, sv = .slice so sn sc := let ⟨so, sc, e, _⟩ := HOPS.out; ⟨so, _, sc, e⟩
      clear hst hst2 ro hBw
      go_wp2_with fail
      refine q3 _ ?_ ?_
      · intro hbg w3 f3 c3' ms3 h3 m3
        obtain ⟨ps3, pc3, mv3, U3⟩ := h3
        obtain ⟨c3, hc3⟩ : ∃ c3, c3 = c3' := ⟨_, rfl⟩
        rw [← hc3] at U3
        obtain ⟨co, cn, cc, rfl⟩ := U3.b.pc.slice
        obtain ⟨mo, mc, hmv⟩ := owns_slice U3.b.mrk
        subst hmv
        obtain ⟨mn, hmn⟩ : ∃ mn, mn = (ms3).length := ⟨_, rfl⟩
        rw [← hmn] at U3
        have b3 : Below (w.heap.size + 2) ((w.alloc (.cells #[.int .i64 p.args, .int .i64 p.regs, .int .i64 p.data, .int .i64 p.slots, .slice (some ⟨bb, boff, none⟩) bn bc] 33)).alloc (.cells #[.slice none 0 0, .int .i64 0, .int .i64 0, .slice none 0 0, .int .i64 0, .string ⟨#[]⟩, .slice none 0 0, .bool false, .int .i64 0, .int .i64 0] 121)) w3 := hB.trans m3.low
        have rg3 := HRG.out.below b3 (by omega)
        have hS := U3.b.set10 (g := w.heap.size + 1) (by omega) (.slice (some ⟨P, 0, none⟩) n cap) (.int .i64 (ckind c3)) (.int .i64 (cval c3)) (.slice co cn cc) (.int .i64 c3.size) (.string (str (showT c3))) (.slice mo mn mc) (.bool true) (.int .i64 p.regs) (.int .i64 p.data)
        have hb3 : Below w.heap.size w (set10 w3 (w.heap.size + 1) (.slice (some ⟨P, 0, none⟩) n cap) (.int .i64 (ckind c3)) (.int .i64 (cval c3)) (.slice co cn cc) (.int .i64 c3.size) (.string (str (showT c3))) (.slice mo mn mc) (.bool true) (.int .i64 p.regs) (.int .i64 p.data)) := by
          have k3 : Keep (fun g => g = w.heap.size + 1) w3 (set10 w3 (w.heap.size + 1) (.slice (some ⟨P, 0, none⟩) n cap) (.int .i64 (ckind c3)) (.int .i64 (cval c3)) (.slice co cn cc) (.int .i64 c3.size) (.string (str (showT c3))) (.slice mo mn mc) (.bool true) (.int .i64 p.regs) (.int .i64 p.data)) := (Keep.refl (fun g => g = w.heap.size + 1) w3).set10 (g := w.heap.size + 1) rfl _ _ _ _ _ _ _ _ _ _
          exact (HB0.out.trans (b3.mono (by omega))).trans (k3.toBelow (by have := b3.size; have := HZ.out; omega) (fun g e => by omega))
        have hv : StV w (set10 w3 (w.heap.size + 1) (.slice (some ⟨P, 0, none⟩) n cap) (.int .i64 (ckind c3)) (.int .i64 (cval c3)) (.slice co cn cc) (.int .i64 c3.size) (.string (str (showT c3))) (.slice mo mn mc) (.bool true) (.int .i64 p.regs) (.int .i64 p.data)) (stV P n cap c3 (.slice co cn cc) (.slice mo mn mc) true p.regs p.data) n f3 c3 (ms3) true p.regs p.data := ⟨w.heap.size + 2, Lo, P, cap, ps3, .slice co cn cc, .slice mo mn mc, by omega, rfl, hS⟩
        rw [hc3] at hv
        have HF := Lib.hid (HP1.out hbg _ _ f3 c3' ms3 hv (by rw [hc3] at hb3; exact hb3))
        rw [← hc3] at HF
        clear hv
        unfold stV set10 at HF
        have mm0 := U3.row.cell (i := 0) rfl
        have z0 := rg3.cell (i := 0) rfl
        have f0 := rg3.frozen 0
        have mm1 := U3.row.cell (i := 1) rfl
        have z1 := rg3.cell (i := 1) rfl
        have f1 := rg3.frozen 1
        have mm2 := U3.row.cell (i := 2) rfl
        have z2 := rg3.cell (i := 2) rfl
        have f2 := rg3.frozen 2
        have mm3 := U3.row.cell (i := 3) rfl
        have z3 := rg3.cell (i := 3) rfl
        have f3 := rg3.frozen 3
        have mm4 := U3.row.cell (i := 4) rfl
        have z4 := rg3.cell (i := 4) rfl
        have f4 := rg3.frozen 4
        have mm5 := U3.row.cell (i := 5) rfl
        have z5 := rg3.cell (i := 5) rfl
        have f5 := rg3.frozen 5
        have mm6 := U3.row.cell (i := 6) rfl
        have z6 := rg3.cell (i := 6) rfl
        have f6 := rg3.frozen 6
        have mm7 := U3.row.cell (i := 7) rfl
        have z7 := rg3.cell (i := 7) rfl
        have f7 := rg3.frozen 7
        have mm8 := U3.row.cell (i := 8) rfl
        have z8 := rg3.cell (i := 8) rfl
        have f8 := rg3.frozen 8
        have mm9 := U3.row.cell (i := 9) rfl
        have z9 := rg3.cell (i := 9) rfl
        have f9 := rg3.frozen 9
        clear hS hb3 U3 rg3 b3 m3 hc3 hmn HRO HRG HB0 HP1 HP2
        go_wp2
        (try simp only [Exit.inBlock, Exit.then])
        refine bodyPost_ret (v := .agg #[.slice (some ⟨P, 0, none⟩) n cap, .int .i64 (ckind c3), .int .i64 (cval c3), .slice co cn cc, .int .i64 c3.size, .string (str (showT c3)), .slice mo mn mc, .bool true, .int .i64 p.regs, .int .i64 p.data]) ?_ rfl ?_
        · simp [results, Tryz.results154, go_sem, z0, z1, z2, z3, z4, z5, z6, z7, z8, z9]
        · exact HF.out
      · intro hbg w3 h3 m3
        obtain ⟨ps3, pc3, mv3, U3⟩ := h3
        obtain ⟨c3, hc3⟩ : ∃ c3, c3 = behindT p.regs p.slots (namesOf qs n) (bops p.blocks b) (bops p.blocks b).length (n : Int) := ⟨_, rfl⟩
        rw [← hc3] at U3
        obtain ⟨co, cn, cc, rfl⟩ := U3.b.pc.slice
        obtain ⟨mo, mc, hmv⟩ := owns_slice U3.b.mrk
        subst hmv
        obtain ⟨mn, hmn⟩ : ∃ mn, mn = (marksT p.regs p.slots p.data (namesOf qs n) (bops p.blocks b) (bops p.blocks b).length).length := ⟨_, rfl⟩
        rw [← hmn] at U3
        have b3 : Below (w.heap.size + 2) ((w.alloc (.cells #[.int .i64 p.args, .int .i64 p.regs, .int .i64 p.data, .int .i64 p.slots, .slice (some ⟨bb, boff, none⟩) bn bc] 33)).alloc (.cells #[.slice none 0 0, .int .i64 0, .int .i64 0, .slice none 0 0, .int .i64 0, .string ⟨#[]⟩, .slice none 0 0, .bool false, .int .i64 0, .int .i64 0] 121)) w3 := hB.trans m3.low
        have rg3 := HRG.out.below b3 (by omega)
        have hS := U3.b.set10 (g := w.heap.size + 1) (by omega) (.slice (some ⟨P, 0, none⟩) n cap) (.int .i64 (ckind c3)) (.int .i64 (cval c3)) (.slice co cn cc) (.int .i64 c3.size) (.string (str (showT c3))) (.slice mo mn mc) (.bool false) (.int .i64 p.regs) (.int .i64 p.data)
        have hb3 : Below w.heap.size w (set10 w3 (w.heap.size + 1) (.slice (some ⟨P, 0, none⟩) n cap) (.int .i64 (ckind c3)) (.int .i64 (cval c3)) (.slice co cn cc) (.int .i64 c3.size) (.string (str (showT c3))) (.slice mo mn mc) (.bool false) (.int .i64 p.regs) (.int .i64 p.data)) := by
          have k3 : Keep (fun g => g = w.heap.size + 1) w3 (set10 w3 (w.heap.size + 1) (.slice (some ⟨P, 0, none⟩) n cap) (.int .i64 (ckind c3)) (.int .i64 (cval c3)) (.slice co cn cc) (.int .i64 c3.size) (.string (str (showT c3))) (.slice mo mn mc) (.bool false) (.int .i64 p.regs) (.int .i64 p.data)) := (Keep.refl (fun g => g = w.heap.size + 1) w3).set10 (g := w.heap.size + 1) rfl _ _ _ _ _ _ _ _ _ _
          exact (HB0.out.trans (b3.mono (by omega))).trans (k3.toBelow (by have := b3.size; have := HZ.out; omega) (fun g e => by omega))
        have hv : StV w (set10 w3 (w.heap.size + 1) (.slice (some ⟨P, 0, none⟩) n cap) (.int .i64 (ckind c3)) (.int .i64 (cval c3)) (.slice co cn cc) (.int .i64 c3.size) (.string (str (showT c3))) (.slice mo mn mc) (.bool false) (.int .i64 p.regs) (.int .i64 p.data)) (stV P n cap c3 (.slice co cn cc) (.slice mo mn mc) false p.regs p.data) n (fun i : Nat => behindT p.regs p.slots (namesOf qs n) (bops p.blocks b) (bops p.blocks b).length (i : Int)) c3 (marksT p.regs p.slots p.data (namesOf qs n) (bops p.blocks b) (bops p.blocks b).length) false p.regs p.data := ⟨w.heap.size + 2, Lo, P, cap, ps3, .slice co cn cc, .slice mo mn mc, by omega, rfl, hS⟩
        rw [hc3] at hv
        have HF := Lib.hid (HP2.out hbg _ _ hv (by rw [hc3] at hb3; exact hb3))
        rw [← hc3] at HF
        clear hv
        unfold stV set10 at HF
        have mm0 := U3.row.cell (i := 0) rfl
        have z0 := rg3.cell (i := 0) rfl
        have f0 := rg3.frozen 0
        have mm1 := U3.row.cell (i := 1) rfl
        have z1 := rg3.cell (i := 1) rfl
        have f1 := rg3.frozen 1
        have mm2 := U3.row.cell (i := 2) rfl
        have z2 := rg3.cell (i := 2) rfl
        have f2 := rg3.frozen 2
        have mm3 := U3.row.cell (i := 3) rfl
        have z3 := rg3.cell (i := 3) rfl
        have f3 := rg3.frozen 3
        have mm4 := U3.row.cell (i := 4) rfl
        have z4 := rg3.cell (i := 4) rfl
        have f4 := rg3.frozen 4
        have mm5 := U3.row.cell (i := 5) rfl
        have z5 := rg3.cell (i := 5) rfl
        have f5 := rg3.frozen 5
        have mm6 := U3.row.cell (i := 6) rfl
        have z6 := rg3.cell (i := 6) rfl
        have f6 := rg3.frozen 6
        have mm7 := U3.row.cell (i := 7) rfl
        have z7 := rg3.cell (i := 7) rfl
        have f7 := rg3.frozen 7
        have mm8 := U3.row.cell (i := 8) rfl
        have z8 := rg3.cell (i := 8) rfl
        have f8 := rg3.frozen 8
        have mm9 := U3.row.cell (i := 9) rfl
        have z9 := rg3.cell (i := 9) rfl
        have f9 := rg3.frozen 9
        clear hS hb3 U3 rg3 b3 m3 hc3 hmn HRO HRG HB0 HP1 HP2
        go_wp2
        (try simp only [Exit.inBlock, Exit.then])
        refine bodyPost_ret (v := .agg #[.slice (some ⟨P, 0, none⟩) n cap, .int .i64 (ckind c3), .int .i64 (cval c3), .slice co cn cc, .int .i64 c3.size, .string (str (showT c3)), .slice mo mn mc, .bool false, .int .i64 p.regs, .int .i64 p.data]) ?_ rfl ?_
        · simp [results, Tryz.results154, go_sem, z0, z1, z2, z3, z4, z5, z6, z7, z8, z9]
        · exact HF.out


end Go.Proofs.YtblhmeidbjigaaaGreatDoor

/- Package compare: lists of texts, how a block is left. -/
set_option linter.unusedSimpArgs false
set_option linter.unusedVariables false
namespace Go.Proofs.YtblhmeidbjigaaaGreatDoor
open Go.RowKit

set_option maxRecDepth 100000 in
set_option maxHeartbeats 1000000 in
theorem vList_any (u v : Value) (l m : List (List UInt8)) (w : World) (hu : RdTexts w u l) (hv : RdTexts w v m) :
    Calls Tryz.prog 155 #[u, v] w fun e w' => e = .returned (.bool (decide (l = m))) ∧ Below w.heap.size w w' := by
  obtain ⟨uo, uc, rfl, hul, hucs⟩ := hu
  obtain ⟨vo, vc, rfl, hvl, hvcs⟩ := hv
  by_cases hlen : l.length = m.length
  · obtain ⟨n, hn⟩ : ∃ n, l.length = n := ⟨_, rfl⟩
    have hm : m.length = n := by rw [← hlen, hn]
    have HLEN := Lib.hid hlen
    have HN := Lib.hid hn
    rw [hn] at hucs hul ⊢
    rw [hm] at hvcs hvl ⊢
    clear hlen hn hm
    go_enter Tryz.func155, Tryz.ntmps155
    go_wp2
    go_loopw [5] (fun i wr => ∃ (k : Nat), k ≤ n ∧ i = .int .i64 k ∧ Below w.heap.size w wr ∧ Hid (∀ j, j < k → l.getD j [] = m.getD j []))
      (fun i _ => n - (intOf i).toNat)
    case atStart => exact ⟨0, Nat.zero_le _, rfl, Below.refl _ _, fun j hj => by omega⟩
    case round =>
      obtain ⟨k, hk, rfl, hbel, hall⟩ := hrel
      by_cases hlt : k < n
      · obtain ⟨b, off, rfl, h1⟩ := hucs k hlt
        obtain ⟨b', off', rfl, h2⟩ := hvcs k hlt
        have g1 := cell_keep hbel h1
        have g2 := cell_keep hbel h2
        have hki : (k : Int) < (n : Int) := by omega
        have hbd := Lib.hid (fun d => below_drewN hbel d)
        clear h1 h2 hucs hvcs
        by_cases he : l.getD k [] = m.getD k []
        · have hq := (str_eq (l.getD k []) (m.getD k [])).2 he
          have hall2 : Hid (∀ j, j < k + 1 → l.getD j [] = m.getD j []) := fun j hj => by
            by_cases q : j = k
            · rw [q]; exact he
            · exact hall.out j (by omega)
          clear he hall
          generalize str (l.getD k []) = x at *
          generalize str (m.getD k []) = y at *
          go_wp2
          go_quiet (fail)
          go_wp2
          go_roundw
          case rel => exact ⟨k + 1, by omega, by go_num, hbd.out _, hall2⟩
          case measure => simp [intOf]; omega
        · have hq := str_ne he
          have HD : Hid (decide (l = m) = false) := by
            show _ = _
            rw [decide_eq_false_iff_not]
            intro q
            rw [q] at he
            exact he rfl
          clear he hall
          generalize str (l.getD k []) = x at *
          generalize str (m.getD k []) = y at *
          go_wp2
          go_quiet (fail)
          go_wp2
          (try simp only [Exit.inBlock, Exit.then])
          refine bodyPost_ret (v := .bool false) ?_ rfl ?_
          · simp [results, Tryz.results155, go_sem]
          · exact ⟨by rw [HD.out], hbd.out _⟩
      · obtain rfl : k = n := by omega
        have HD : Hid (decide (l = m) = true) := by
          show _ = _
          rw [decide_eq_true_eq]
          apply List.ext_getElem (by rw [HLEN.out])
          intro j h1 h2
          have := hall.out j (by rw [← HN.out]; exact h1)
          simpa [List.getD, h1, h2] using this
        clear hucs hvcs hall
        go_wp2
        go_ret
        exact ⟨by rw [HD.out]; rfl, hbel⟩
  · have HD : Hid (decide (l = m) = false) := by
      show _ = _
      rw [decide_eq_false_iff_not]
      exact fun q => hlen (by rw [q])
    have hne : ((l.length : Int) == (m.length : Int)) = false := by simp; omega
    clear hucs hvcs hlen
    generalize l.length = a at *
    generalize m.length = b at *
    go_enter Tryz.func155, Tryz.ntmps155
    go_wp2
    go_ret
    exact ⟨by rw [HD.out]; rfl, Below.refl _ _⟩

set_option maxRecDepth 100000 in
set_option maxHeartbeats 1000000 in
theorem vSame_any (k n s k' n' s' : Int) (po qo : Option Addr) (pn pc qn qc : Nat) (x y : ByteArray) (w : World) :
    Calls Tryz.prog 156 #[.agg #[.int .i64 k, .int .i64 n, .slice po pn pc, .int .i64 s, .string x], .agg #[.int .i64 k', .int .i64 n', .slice qo qn qc, .int .i64 s', .string y]] w fun e w' => e = .returned (.bool (x.toList == y.toList)) ∧ Below w.heap.size w w' := by
  have hb : Below w.heap.size w ((w.alloc (.cells #[.int .i64 k, .int .i64 n, .slice po pn pc, .int .i64 s, .string x] 119)).alloc (.cells #[.int .i64 k', .int .i64 n', .slice qo qn qc, .int .i64 s', .string y] 119)) := ((Below.refl _ _).alloc (Nat.le_refl _) _).alloc (by simp) _
  go_enter Tryz.func156, Tryz.ntmps156
  go_wp2
  go_ret
  exact ⟨rfl, hb⟩

/-- How a block is left, as data. -/
structure ExD where
  kind : Int
  on : Option TD
  next : List Int

noncomputable def exitD (f : Int → TD) (e : EndD) : ExD :=
  if e.kind = 3 then ⟨3, some (f e.r), []⟩
  else if e.kind = 1 then ⟨1, none, [e.x]⟩
  else match (f e.r).isNum with
    | none => ⟨2, some (f e.r), [e.x, e.y]⟩
    | some n => if n = 0 then ⟨1, none, [e.y]⟩ else ⟨1, none, [e.x]⟩

def onText : Option TD → ByteArray
  | none => ⟨#[]⟩
  | some t => str (showT t)

/-- How a block is left, as a value. -/
def ExAt (B : Nat) (w : World) (v : Value) (ex : ExD) : Prop :=
  ∃ a b c po pn pc nv, v = .agg #[.int .i64 ex.kind, .int .i64 a, .int .i64 b, .slice po pn pc, .int .i64 c, .string (onText ex.on), nv] ∧ RdWords w nv ex.next ∧ ∀ o n c, nv = .slice (some o) n c → B ≤ o.block

theorem words_one {w : World} {g : Nat} {x : Int} (h : w.cell? ⟨g, 0, none⟩ = some (.int .i64 x)) : RdWords w (.slice (some ⟨g, 0, none⟩) 1 1) [x] := by
  refine ⟨_, _, rfl, by simp, fun i hi => ⟨g, 0, rfl, ?_⟩⟩
  have e : i = 0 := by simpa using hi
  subst e
  simpa using h

theorem words_two {w : World} {g : Nat} {x y : Int} (h : w.cell? ⟨g, 0, none⟩ = some (.int .i64 x)) (h' : w.cell? ⟨g, 1, none⟩ = some (.int .i64 y)) : RdWords w (.slice (some ⟨g, 0, none⟩) 2 2) [x, y] := by
  refine ⟨_, _, rfl, by simp, fun i hi => ⟨g, 0, rfl, ?_⟩⟩
  have hi' : i < 2 := by simpa using hi
  rcases Nat.lt_or_ge i 1 with q | q
  · obtain rfl : i = 0 := by omega
    simpa using h
  · obtain rfl : i = 1 := by omega
    simpa using h'

theorem words_nil (w : World) : RdWords w (.slice none 0 0) [] := ⟨_, _, rfl, by simp, fun i hi => by simp at hi⟩

end Go.Proofs.YtblhmeidbjigaaaGreatDoor

/- Package compare: jumpTo, exitOf. -/
set_option linter.unusedSimpArgs false
set_option linter.unusedVariables false
namespace Go.Proofs.YtblhmeidbjigaaaGreatDoor
open Go.RowKit

/-- Seven cells of a block are set. -/
def sevn (w : World) (g : Nat) (a b c d e f h : Value) : World :=
  ((((((w.setCell ⟨g, 0, none⟩ a).setCell ⟨g, 1, none⟩ b).setCell ⟨g, 2, none⟩ c).setCell ⟨g, 3, none⟩ d).setCell ⟨g, 4, none⟩ e).setCell ⟨g, 5, none⟩ f).setCell ⟨g, 6, none⟩ h

theorem sevn_below {w0 w : World} (h : Below w0.heap.size w0 w) {g : Nat} (hg : w0.heap.size ≤ g) (a b c d e f i : Value) : Below w0.heap.size w0 (sevn w g a b c d e f i) :=
  cbelow_set (cbelow_set (cbelow_set (cbelow_set (cbelow_set (cbelow_set (cbelow_set h hg _) hg _) hg _) hg _) hg _) hg _) hg _

theorem cell_sevn {w : World} {g b o : Nat} (hb : b ≠ g) {v : Value} (h : w.cell? ⟨b, o, none⟩ = some v) (x0 x1 x2 x3 x4 x5 x6 : Value) : (sevn w g x0 x1 x2 x3 x4 x5 x6).cell? ⟨b, o, none⟩ = some v := by
  have one : ∀ {V : World} (i : Nat) (u : Value), V.cell? ⟨b, o, none⟩ = some v → (V.setCell ⟨g, i, none⟩ u).cell? ⟨b, o, none⟩ = some v := fun i u h => by
    exact ((Keep.refl (fun k => k = g) _).setCell (p := ⟨g, i, none⟩) (.inl rfl) u).cell hb h
  exact one _ _ (one _ _ (one _ _ (one _ _ (one _ _ (one _ _ (one _ _ h))))))

set_option maxRecDepth 100000 in
set_option maxHeartbeats 2000000 in
theorem vJump_cps (x : Int) (w : World) (Post : Ending → World → Prop)
    (hp : ∀ g w', w.heap.size ≤ g → w'.cell? ⟨g, 0, none⟩ = some (.int .i64 x) → Below w.heap.size w w' → Post (.returned (.agg #[.int .i64 1, .int .i64 0, .int .i64 0, .slice none 0 0, .int .i64 0, .string ⟨#[]⟩, .slice (some ⟨g, 0, none⟩) 1 1])) w') :
    Calls Tryz.prog 180 #[.int .i64 x] w Post := by
  have rn : Row ((w.alloc (.cells #[.int .i64 1, .int .i64 0, .int .i64 0, .slice none 0 0, .int .i64 0, .string ⟨#[]⟩, .slice (some ⟨w.heap.size + 1, 0, none⟩) 1 1] 202)).alloc (.cells #[.int .i64 x] 3)) (w.heap.size + 1) 3 [.int .i64 x] := heap_alloc2_new w _ _
  have hb : Below w.heap.size w ((w.alloc (.cells #[.int .i64 1, .int .i64 0, .int .i64 0, .slice none 0 0, .int .i64 0, .string ⟨#[]⟩, .slice (some ⟨w.heap.size + 1, 0, none⟩) 1 1] 202)).alloc (.cells #[.int .i64 x] 3)) := ((Below.refl _ _).alloc (Nat.le_refl _) _).alloc (by simp) _
  have HF := Lib.hid (hp (w.heap.size + 1) _ (by omega) (rn.cell (i := 0) rfl) hb)
  clear hp rn hb
  go_enter Tryz.func180, Tryz.ntmps180
  go_wp2
  (try simp only [Exit.inBlock, Exit.then])
  refine bodyPost_ret (v := .agg #[.int .i64 1, .int .i64 0, .int .i64 0, .slice none 0 0, .int .i64 0, .string ⟨#[]⟩, .slice (some ⟨w.heap.size + 1, 0, none⟩) 1 1]) ?_ rfl ?_
  · simp [results, Tryz.results180, go_sem]
  · exact HF.out

set_option maxRecDepth 100000 in
set_option maxHeartbeats 4000000 in
theorem vExit_cps {P n : Nat} {f : Nat → TD} {ps : Nat → Value} (cap : Nat) (ck cv cs rg dt : Int) (co mo : Option Addr) (cn cc mn mc : Nat) (ct : ByteArray) (big : Bool) (e : EndD) (r : Nat) (hr : e.r = r) (hrn : r < n) (hk : e.kind = 1 ∨ e.kind = 2 ∨ e.kind = 3) (hn : n ≤ 1000) (was : Int → TD) (hw : f r = was r) (hf : (was r).fine) (w : World) (hpl : PlAt w P n f ps) (hps : ∃ o a c, ps r = .slice o a c) (Post : Ending → World → Prop)
    (hp : ∀ v w', ExAt w.heap.size w' v (exitD was e) → Below w.heap.size w w' → Post (.returned v) w') :
    Calls Tryz.prog 157 #[.agg #[.slice (some ⟨P, 0, none⟩) n cap, .int .i64 ck, .int .i64 cv, .slice co cn cc, .int .i64 cs, .string ct, .slice mo mn mc, .bool big, .int .i64 rg, .int .i64 dt], .agg #[.int .i64 e.kind, .int .i64 e.r, .int .i64 e.x, .int .i64 e.y]] w Post := by
  obtain ⟨to, tn, tc, hpt⟩ := hps
  obtain ⟨t, ht⟩ : ∃ t, was r = t := ⟨_, rfl⟩
  obtain ⟨ek, er, ex, ey⟩ := e
  simp only at hr hk
  subst hr
  have hb3 : Below w.heap.size w (((w.alloc (.cells #[.slice (some ⟨P, 0, none⟩) n cap, .int .i64 ck, .int .i64 cv, .slice co cn cc, .int .i64 cs, .string ct, .slice mo mn mc, .bool big, .int .i64 rg, .int .i64 dt] 121)).alloc (.cells #[.int .i64 ek, .int .i64 (r : Int), .int .i64 ex, .int .i64 ey] 37)).alloc (.cells #[.int .i64 0, .int .i64 0, .int .i64 0, .slice none 0 0, .int .i64 0, .string ⟨#[]⟩, .slice none 0 0] 202)) := (((Below.refl _ _).alloc (Nat.le_refl _) _).alloc (by simp) _).alloc (by simp; omega) _
  have rs : Row (((w.alloc (.cells #[.slice (some ⟨P, 0, none⟩) n cap, .int .i64 ck, .int .i64 cv, .slice co cn cc, .int .i64 cs, .string ct, .slice mo mn mc, .bool big, .int .i64 rg, .int .i64 dt] 121)).alloc (.cells #[.int .i64 ek, .int .i64 (r : Int), .int .i64 ex, .int .i64 ey] 37)).alloc (.cells #[.int .i64 0, .int .i64 0, .int .i64 0, .slice none 0 0, .int .i64 0, .string ⟨#[]⟩, .slice none 0 0] 202)) w.heap.size 121 [.slice (some ⟨P, 0, none⟩) n cap, .int .i64 ck, .int .i64 cv, .slice co cn cc, .int .i64 cs, .string ct, .slice mo mn mc, .bool big, .int .i64 rg, .int .i64 dt] := Row.alloc (Row.alloc (heap_alloc_new w _) _) _
  have re : Row (((w.alloc (.cells #[.slice (some ⟨P, 0, none⟩) n cap, .int .i64 ck, .int .i64 cv, .slice co cn cc, .int .i64 cs, .string ct, .slice mo mn mc, .bool big, .int .i64 rg, .int .i64 dt] 121)).alloc (.cells #[.int .i64 ek, .int .i64 (r : Int), .int .i64 ex, .int .i64 ey] 37)).alloc (.cells #[.int .i64 0, .int .i64 0, .int .i64 0, .slice none 0 0, .int .i64 0, .string ⟨#[]⟩, .slice none 0 0] 202)) (w.heap.size + 1) 37 [.int .i64 ek, .int .i64 (r : Int), .int .i64 ex, .int .i64 ey] := Row.alloc (heap_alloc2_new w _ _) _
  have rG : Row (((w.alloc (.cells #[.slice (some ⟨P, 0, none⟩) n cap, .int .i64 ck, .int .i64 cv, .slice co cn cc, .int .i64 cs, .string ct, .slice mo mn mc, .bool big, .int .i64 rg, .int .i64 dt] 121)).alloc (.cells #[.int .i64 ek, .int .i64 (r : Int), .int .i64 ex, .int .i64 ey] 37)).alloc (.cells #[.int .i64 0, .int .i64 0, .int .i64 0, .slice none 0 0, .int .i64 0, .string ⟨#[]⟩, .slice none 0 0] 202)) (w.heap.size + 1 + 1) 202 [.int .i64 0, .int .i64 0, .int .i64 0, .slice none 0 0, .int .i64 0, .string ⟨#[]⟩, .slice none 0 0] := by
    have := heap_alloc_new ((w.alloc (.cells #[.slice (some ⟨P, 0, none⟩) n cap, .int .i64 ck, .int .i64 cv, .slice co cn cc, .int .i64 cs, .string ct, .slice mo mn mc, .bool big, .int .i64 rg, .int .i64 dt] 121)).alloc (.cells #[.int .i64 ek, .int .i64 (r : Int), .int .i64 ex, .int .i64 ey] 37)) (.cells #[.int .i64 0, .int .i64 0, .int .i64 0, .slice none 0 0, .int .i64 0, .string ⟨#[]⟩, .slice none 0 0] 202)
    simp only [World.size_alloc] at this
    exact this
  have pl3 := hpl.keep hb3
  have plc : ∀ j u, (tcells t (.slice to tn tc))[j]? = some u → (((w.alloc (.cells #[.slice (some ⟨P, 0, none⟩) n cap, .int .i64 ck, .int .i64 cv, .slice co cn cc, .int .i64 cs, .string ct, .slice mo mn mc, .bool big, .int .i64 rg, .int .i64 dt] 121)).alloc (.cells #[.int .i64 ek, .int .i64 (r : Int), .int .i64 ex, .int .i64 ey] 37)).alloc (.cells #[.int .i64 0, .int .i64 0, .int .i64 0, .slice none 0 0, .int .i64 0, .string ⟨#[]⟩, .slice none 0 0] 202)).cell? ⟨P, r * 5 + j, none⟩ = some u := fun j u hj => pl3.cell hrn (by rw [hpt, hw, ht]; exact hj)
  have s0 := plc 0 _ rfl
  have s1 := plc 1 _ rfl
  have s2 := plc 2 _ rfl
  have s3 := plc 3 _ rfl
  have s4 := plc 4 _ rfl
  rw [Nat.add_zero] at s0
  have hri : (0 : Int) ≤ (r : Int) := by omega
  have hrj : (r : Int) < (n : Int) := by omega
  obtain ⟨W, hW⟩ : ∃ W, W = (((w.alloc (.cells #[.slice (some ⟨P, 0, none⟩) n cap, .int .i64 ck, .int .i64 cv, .slice co cn cc, .int .i64 cs, .string ct, .slice mo mn mc, .bool big, .int .i64 rg, .int .i64 dt] 121)).alloc (.cells #[.int .i64 ek, .int .i64 (r : Int), .int .i64 ex, .int .i64 ey] 37)).alloc (.cells #[.int .i64 0, .int .i64 0, .int .i64 0, .slice none 0 0, .int .i64 0, .string ⟨#[]⟩, .slice none 0 0] 202)) := ⟨_, rfl⟩
  have hz : W.heap.size = w.heap.size + 3 := by rw [hW]; simp
  have b4 : Below W.heap.size W (W.alloc (.cells #[.int .i64 (ckind t), .int .i64 (cval t), (.slice to tn tc), .int .i64 (t).size, .string (str (showT t))] 119)) := (Below.refl _ _).alloc (Nat.le_refl _) _
  have q1 := cNum_any (by rw [← ht]; exact hf : t.fine) (.slice to tn tc) (W.alloc (.cells #[.int .i64 (ckind t), .int .i64 (cval t), (.slice to tn tc), .int .i64 (t).size, .string (str (showT t))] 119))
  have HB3 := Lib.hid hb3
  have HRE := Lib.hid re
  have HRG := Lib.hid rG
  rw [← hW] at HB3 HRE HRG
  have ru : Row (W.alloc (.cells #[.int .i64 (ckind t), .int .i64 (cval t), (.slice to tn tc), .int .i64 (t).size, .string (str (showT t))] 119)) W.heap.size 119 (tcells t (.slice to tn tc)) := heap_alloc_new W _
  have HRU := Lib.hid ru
  have HB4 := Lib.hid b4
  rw [hW] at q1
  have HWE := Lib.hid hW
  have HZ := Lib.hid hz
  have HX : Hid (∀ v w', ExAt w.heap.size w' v (exitD was ⟨ek, r, ex, ey⟩) → Below w.heap.size w w' → Post (.returned v) w') := hp
  have HD : Hid (exitD was ⟨ek, r, ex, ey⟩ = if ek = 3 then ⟨3, some t, []⟩ else if ek = 1 then ⟨1, none, [ex]⟩ else match t.isNum with | none => ⟨2, some t, [ex, ey]⟩ | some n => if n = 0 then ⟨1, none, [ey]⟩ else ⟨1, none, [ex]⟩) := by
    show exitD was ⟨ek, r, ex, ey⟩ = _
    subst ht
    rfl
  have HT := Lib.hid ht
  have hnum : t.isNum = if t.isNum.isSome then some (numOf t) else none := by
    unfold numOf; cases t.isNum <;> simp
  have HNUM := Lib.hid hnum
  unfold termV at q1
  clear hp hb3 rs re rG pl3 plc hW hz b4 ru hpl hpt hw hf ht hnum
  have e1 : (((w.alloc (.cells #[.slice (some ⟨P, 0, none⟩) n cap, .int .i64 ck, .int .i64 cv, .slice co cn cc, .int .i64 cs, .string ct, .slice mo mn mc, .bool big, .int .i64 rg, .int .i64 dt] 121)).alloc (.cells #[.int .i64 ek, .int .i64 (r : Int), .int .i64 ex, .int .i64 ey] 37)).alloc (.cells #[.int .i64 0, .int .i64 0, .int .i64 0, .slice none 0 0, .int .i64 0, .string ⟨#[]⟩, .slice none 0 0] 202)).cell? ⟨w.heap.size, 0, none⟩ = some (.slice (some ⟨P, 0, none⟩) n cap) := by
    rw [← HWE.out, HWE.out]
    exact (Row.alloc (Row.alloc (heap_alloc_new w (.cells #[.slice (some ⟨P, 0, none⟩) n cap, .int .i64 ck, .int .i64 cv, .slice co cn cc, .int .i64 cs, .string ct, .slice mo mn mc, .bool big, .int .i64 rg, .int .i64 dt] 121)) _) _).cell (xs := [.slice (some ⟨P, 0, none⟩) n cap, .int .i64 ck, .int .i64 cv, .slice co cn cc, .int .i64 cs, .string ct, .slice mo mn mc, .bool big, .int .i64 rg, .int .i64 dt]) (i := 0) rfl
  have e2 := HRE.out.cell (i := 1) rfl
  rw [HWE.out] at e2
  go_enter Tryz.func157, Tryz.ntmps157
  go_wp2_with fail
  refine q1.mono ?_
  rintro e w1 ⟨rfl, b1⟩
  rw [← HWE.out] at b1
  have b2 : Below W.heap.size W w1 := HB4.out.trans (b1.mono HB4.out.size)
  have hb1 : Below w.heap.size w w1 := HB3.out.trans (b2.mono HB3.out.size)
  have re1 := HRE.out.keep b2
  have rg1 := HRG.out.keep b2
  have ru1 := HRU.out.keep b1
  have hzz := HZ.out
  have x0 := re1.cell (i := 0) rfl
  have x2 := re1.cell (i := 2) rfl
  have x3 := re1.cell (i := 3) rfl
  rw [hzz, show w.heap.size + 3 = w.heap.size + 1 + 1 + 1 from rfl] at ru1
  have u0 := ru1.cell (i := 0) rfl
  have u1 := ru1.cell (i := 1) rfl
  have u2 := ru1.cell (i := 2) rfl
  have u3 := ru1.cell (i := 3) rfl
  have u4 := ru1.cell (i := 4) rfl
  rcases hk with rfl | rfl | rfl
  · have qj := fun P' => vJump_cps ex w1 P'
    have HY : Hid (∀ g w', w1.heap.size ≤ g → w'.cell? ⟨g, 0, none⟩ = some (.int .i64 ex) → Below w1.heap.size w1 w' → Post (.returned (.agg #[.int .i64 1, .int .i64 0, .int .i64 0, .slice none 0 0, .int .i64 0, .string ⟨#[]⟩, .slice (some ⟨g, 0, none⟩) 1 1])) (sevn w' (w.heap.size + 1 + 1) (.int .i64 1) (.int .i64 0) (.int .i64 0) (.slice none 0 0) (.int .i64 0) (.string ⟨#[]⟩) (.slice (some ⟨g, 0, none⟩) 1 1))) := by
      intro g w' hg hc hb'
      refine HX.out _ _ ?_ (sevn_below (hb1.trans (hb'.mono hb1.size)) (by omega) _ _ _ _ _ _ _)
      rw [HD.out]
      rw [if_neg (show ¬ (1 : Int) = 3 by omega), if_pos rfl]
      exact ⟨_, _, _, _, _, _, _, rfl, words_one (cell_sevn (by have := b2.size; omega) hc _ _ _ _ _ _ _), fun o n c e => by
        simp only [Value.slice.injEq, Option.some.injEq] at e
        obtain ⟨rfl, _⟩ := e
        exact Nat.le_trans hb1.size hg⟩
    have HRG1 := Lib.hid rg1
    clear HX HD rg1 re1 ru1 b1 hb1 HRU HB4 q1
    go_wp2_with fail
    refine qj _ ?_
    intro g w2 hg hc hb2
    have rg2 := HRG1.out.keep hb2
    have HF := Lib.hid (HY.out g w2 hg hc hb2)
    unfold sevn at HF
    have z0 := rg2.cell (i := 0) rfl
    have f0 := rg2.frozen 0
    have z1 := rg2.cell (i := 1) rfl
    have f1 := rg2.frozen 1
    have z2 := rg2.cell (i := 2) rfl
    have f2 := rg2.frozen 2
    have z3 := rg2.cell (i := 3) rfl
    have f3 := rg2.frozen 3
    have z4 := rg2.cell (i := 4) rfl
    have f4 := rg2.frozen 4
    have z5 := rg2.cell (i := 5) rfl
    have f5 := rg2.frozen 5
    have z6 := rg2.cell (i := 6) rfl
    have f6 := rg2.frozen 6
    clear qj hg hc hb2 rg2 HY HRG1
    go_wp2
    (try simp only [Exit.inBlock, Exit.then])
    refine bodyPost_ret (v := .agg #[.int .i64 1, .int .i64 0, .int .i64 0, .slice none 0 0, .int .i64 0, .string ⟨#[]⟩, .slice (some ⟨g, 0, none⟩) 1 1]) ?_ rfl ?_
    · simp [results, Tryz.results157, go_sem, z0, z1, z2, z3, z4, z5, z6]
    · exact HF.out
  · cases hz : t.isNum.isSome with
    | false =>
      have hnone : t.isNum = none := by cases hq : t.isNum <;> simp [hq] at hz ⊢
      have bN : Below w1.heap.size w1 (w1.alloc (.cells #[.int .i64 ex, .int .i64 ey] 3)) := (Below.refl _ _).alloc (Nat.le_refl _) _
      have rN : Row (w1.alloc (.cells #[.int .i64 ex, .int .i64 ey] 3)) w1.heap.size 3 [.int .i64 ex, .int .i64 ey] := heap_alloc_new w1 _
      have rg2 := rg1.keep bN
      have HF : Hid (Post (.returned (.agg #[.int .i64 2, .int .i64 (ckind t), .int .i64 (cval t), (.slice to tn tc), .int .i64 t.size, .string (str (showT t)), .slice (some ⟨w1.heap.size, 0, none⟩) 2 2])) (sevn (w1.alloc (.cells #[.int .i64 ex, .int .i64 ey] 3)) (w.heap.size + 1 + 1) (.int .i64 2) (.int .i64 (ckind t)) (.int .i64 (cval t)) (.slice to tn tc) (.int .i64 t.size) (.string (str (showT t))) (.slice (some ⟨w1.heap.size, 0, none⟩) 2 2))) := by
        refine HX.out _ _ ?_ (sevn_below (hb1.trans (bN.mono hb1.size)) (by omega) _ _ _ _ _ _ _)
        rw [HD.out, if_neg (show ¬ (2 : Int) = 3 by omega), if_neg (show ¬ (2 : Int) = 1 by omega), hnone]
        have hne : w1.heap.size ≠ w.heap.size + 1 + 1 := by have := b2.size; omega
        exact ⟨_, _, _, _, _, _, _, rfl, words_two (cell_sevn hne (rN.cell (i := 0) rfl) _ _ _ _ _ _ _) (cell_sevn hne (rN.cell (i := 1) rfl) _ _ _ _ _ _ _), fun o n c e => by
          simp only [Value.slice.injEq, Option.some.injEq] at e
          obtain ⟨rfl, _⟩ := e
          exact hb1.size⟩
      unfold sevn at HF
      have z0 := rg2.cell (i := 0) rfl
      have f0 := rg2.frozen 0
      have z1 := rg2.cell (i := 1) rfl
      have f1 := rg2.frozen 1
      have z2 := rg2.cell (i := 2) rfl
      have f2 := rg2.frozen 2
      have z3 := rg2.cell (i := 3) rfl
      have f3 := rg2.frozen 3
      have z4 := rg2.cell (i := 4) rfl
      have f4 := rg2.frozen 4
      have z5 := rg2.cell (i := 5) rfl
      have f5 := rg2.frozen 5
      have z6 := rg2.cell (i := 6) rfl
      have f6 := rg2.frozen 6
      clear HX HD rg1 rg2 re1 ru1 b1 hb1 HRU HB4 q1 bN rN hnone
      go_wp2
      (try simp only [Exit.inBlock, Exit.then])
      refine bodyPost_ret (v := .agg #[.int .i64 2, .int .i64 (ckind t), .int .i64 (cval t), (.slice to tn tc), .int .i64 t.size, .string (str (showT t)), .slice (some ⟨w1.heap.size, 0, none⟩) 2 2]) ?_ rfl ?_
      · simp [results, Tryz.results157, go_sem, z0, z1, z2, z3, z4, z5, z6]
      · exact HF.out
    | true =>
      have hsome : t.isNum = some (numOf t) := by
        have := HNUM.out
        rw [hz, if_pos rfl] at this
        exact this
      by_cases hn0 : numOf t = 0
      · have hq0 : (numOf t == 0) = true := by simp [hn0]
        have qj := fun P' => vJump_cps ey w1 P'
        have HY : Hid (∀ g w', w1.heap.size ≤ g → w'.cell? ⟨g, 0, none⟩ = some (.int .i64 ey) → Below w1.heap.size w1 w' → Post (.returned (.agg #[.int .i64 1, .int .i64 0, .int .i64 0, .slice none 0 0, .int .i64 0, .string ⟨#[]⟩, .slice (some ⟨g, 0, none⟩) 1 1])) (sevn w' (w.heap.size + 1 + 1) (.int .i64 1) (.int .i64 0) (.int .i64 0) (.slice none 0 0) (.int .i64 0) (.string ⟨#[]⟩) (.slice (some ⟨g, 0, none⟩) 1 1))) := by
          intro g w' hg hc hb'
          refine HX.out _ _ ?_ (sevn_below (hb1.trans (hb'.mono hb1.size)) (by omega) _ _ _ _ _ _ _)
          rw [HD.out]
          rw [if_neg (show ¬ (2 : Int) = 3 by omega), if_neg (show ¬ (2 : Int) = 1 by omega), hsome]; simp only; rw [if_pos hn0]
          exact ⟨_, _, _, _, _, _, _, rfl, words_one (cell_sevn (by have := b2.size; omega) hc _ _ _ _ _ _ _), fun o n c e => by
            simp only [Value.slice.injEq, Option.some.injEq] at e
            obtain ⟨rfl, _⟩ := e
            exact Nat.le_trans hb1.size hg⟩
        have HRG1 := Lib.hid rg1
        clear HX HD rg1 re1 ru1 b1 hb1 HRU HB4 q1
        go_wp2_with fail
        refine qj _ ?_
        intro g w2 hg hc hb2
        have rg2 := HRG1.out.keep hb2
        have HF := Lib.hid (HY.out g w2 hg hc hb2)
        unfold sevn at HF
        have z0 := rg2.cell (i := 0) rfl
        have f0 := rg2.frozen 0
        have z1 := rg2.cell (i := 1) rfl
        have f1 := rg2.frozen 1
        have z2 := rg2.cell (i := 2) rfl
        have f2 := rg2.frozen 2
        have z3 := rg2.cell (i := 3) rfl
        have f3 := rg2.frozen 3
        have z4 := rg2.cell (i := 4) rfl
        have f4 := rg2.frozen 4
        have z5 := rg2.cell (i := 5) rfl
        have f5 := rg2.frozen 5
        have z6 := rg2.cell (i := 6) rfl
        have f6 := rg2.frozen 6
        clear qj hg hc hb2 rg2 HY HRG1
        go_wp2
        (try simp only [Exit.inBlock, Exit.then])
        refine bodyPost_ret (v := .agg #[.int .i64 1, .int .i64 0, .int .i64 0, .slice none 0 0, .int .i64 0, .string ⟨#[]⟩, .slice (some ⟨g, 0, none⟩) 1 1]) ?_ rfl ?_
        · simp [results, Tryz.results157, go_sem, z0, z1, z2, z3, z4, z5, z6]
        · exact HF.out
      · have hq0 : (numOf t == 0) = false := by simp [hn0]
        have qj := fun P' => vJump_cps ex w1 P'
        have HY : Hid (∀ g w', w1.heap.size ≤ g → w'.cell? ⟨g, 0, none⟩ = some (.int .i64 ex) → Below w1.heap.size w1 w' → Post (.returned (.agg #[.int .i64 1, .int .i64 0, .int .i64 0, .slice none 0 0, .int .i64 0, .string ⟨#[]⟩, .slice (some ⟨g, 0, none⟩) 1 1])) (sevn w' (w.heap.size + 1 + 1) (.int .i64 1) (.int .i64 0) (.int .i64 0) (.slice none 0 0) (.int .i64 0) (.string ⟨#[]⟩) (.slice (some ⟨g, 0, none⟩) 1 1))) := by
          intro g w' hg hc hb'
          refine HX.out _ _ ?_ (sevn_below (hb1.trans (hb'.mono hb1.size)) (by omega) _ _ _ _ _ _ _)
          rw [HD.out]
          rw [if_neg (show ¬ (2 : Int) = 3 by omega), if_neg (show ¬ (2 : Int) = 1 by omega), hsome]; simp only; rw [if_neg hn0]
          exact ⟨_, _, _, _, _, _, _, rfl, words_one (cell_sevn (by have := b2.size; omega) hc _ _ _ _ _ _ _), fun o n c e => by
            simp only [Value.slice.injEq, Option.some.injEq] at e
            obtain ⟨rfl, _⟩ := e
            exact Nat.le_trans hb1.size hg⟩
        have HRG1 := Lib.hid rg1
        clear HX HD rg1 re1 ru1 b1 hb1 HRU HB4 q1
        go_wp2_with fail
        refine qj _ ?_
        intro g w2 hg hc hb2
        have rg2 := HRG1.out.keep hb2
        have HF := Lib.hid (HY.out g w2 hg hc hb2)
        unfold sevn at HF
        have z0 := rg2.cell (i := 0) rfl
        have f0 := rg2.frozen 0
        have z1 := rg2.cell (i := 1) rfl
        have f1 := rg2.frozen 1
        have z2 := rg2.cell (i := 2) rfl
        have f2 := rg2.frozen 2
        have z3 := rg2.cell (i := 3) rfl
        have f3 := rg2.frozen 3
        have z4 := rg2.cell (i := 4) rfl
        have f4 := rg2.frozen 4
        have z5 := rg2.cell (i := 5) rfl
        have f5 := rg2.frozen 5
        have z6 := rg2.cell (i := 6) rfl
        have f6 := rg2.frozen 6
        clear qj hg hc hb2 rg2 HY HRG1
        go_wp2
        (try simp only [Exit.inBlock, Exit.then])
        refine bodyPost_ret (v := .agg #[.int .i64 1, .int .i64 0, .int .i64 0, .slice none 0 0, .int .i64 0, .string ⟨#[]⟩, .slice (some ⟨g, 0, none⟩) 1 1]) ?_ rfl ?_
        · simp [results, Tryz.results157, go_sem, z0, z1, z2, z3, z4, z5, z6]
        · exact HF.out
  · have HF : Hid (Post (.returned (.agg #[.int .i64 3, .int .i64 (ckind t), .int .i64 (cval t), (.slice to tn tc), .int .i64 t.size, .string (str (showT t)), .slice none 0 0])) (sevn w1 (w.heap.size + 1 + 1) (.int .i64 3) (.int .i64 (ckind t)) (.int .i64 (cval t)) (.slice to tn tc) (.int .i64 t.size) (.string (str (showT t))) (.slice none 0 0))) := by
      refine HX.out _ _ ?_ (sevn_below hb1 (by omega) _ _ _ _ _ _ _)
      rw [HD.out, if_pos rfl]
      exact ⟨_, _, _, _, _, _, _, rfl, words_nil _, fun o n c e => by simp at e⟩
    unfold sevn at HF
    have z0 := rg1.cell (i := 0) rfl
    have f0 := rg1.frozen 0
    have z1 := rg1.cell (i := 1) rfl
    have f1 := rg1.frozen 1
    have z2 := rg1.cell (i := 2) rfl
    have f2 := rg1.frozen 2
    have z3 := rg1.cell (i := 3) rfl
    have f3 := rg1.frozen 3
    have z4 := rg1.cell (i := 4) rfl
    have f4 := rg1.frozen 4
    have z5 := rg1.cell (i := 5) rfl
    have f5 := rg1.frozen 5
    have z6 := rg1.cell (i := 6) rfl
    have f6 := rg1.frozen 6
    clear HX HD rg1 re1 ru1 b1 hb1 HRU HB4 q1
    go_wp2
    (try simp only [Exit.inBlock, Exit.then])
    refine bodyPost_ret (v := .agg #[.int .i64 3, .int .i64 (ckind t), .int .i64 (cval t), (.slice to tn tc), .int .i64 t.size, .string (str (showT t)), .slice none 0 0]) ?_ rfl ?_
    · simp [results, Tryz.results157, go_sem, z0, z1, z2, z3, z4, z5, z6]
    · exact HF.out

end Go.Proofs.YtblhmeidbjigaaaGreatDoor
