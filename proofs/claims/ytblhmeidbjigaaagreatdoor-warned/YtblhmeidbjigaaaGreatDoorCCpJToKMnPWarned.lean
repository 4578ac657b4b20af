/- The code's blocks: Block, Paired. -/
import Derived.Test.YtblhmeidbjigaaaGreatDoorRows
import Derived.WalkKit
import Derived.WalkSpells
import Derived.WalkLawsBesides
import Derived.Laws.BytesArg
import Derived.Deep.QuietTactic
import Derived.BigQuiet
import Derived.Deep.RegionHeld3
import Derived.Lib.ItoaNum
import Derived.Lib.ItoaLen
import Derived.OpenShut
import Derived.Maps.AppendAt
import Derived.Shelf.Strconv.Itoa3
import Derived.Shelf.Lay
import Derived.Ground.NamesProg
import Derived.Lib.SmallJoins
import Derived.Lib.Hide
import Derived.StillTailTactics
import Derived.Test.YtblhmeidbjigaaaGreatDoorCCpEToCCpIWarned

set_option linter.unusedSimpArgs false
set_option linter.unusedVariables false
namespace Go.Proofs.YtblhmeidbjigaaaGreatDoor
open Go.RowKit

/-- A state as a value. -/
def stV (P n cap : Nat) (c : TD) (pc mv : Value) (big : Bool) (regs data : Int) : Value :=
  .agg #[.slice (some ⟨P, 0, none⟩) n cap, .int .i64 (ckind c), .int .i64 (cval c), pc, .int .i64 c.size, .string (str (showT c)), mv, .bool big, .int .i64 regs, .int .i64 data]

/-- A state that is handed back: what it leads to is new. -/
def StV (w0 w : World) (v : Value) (n : Nat) (f : Nat → TD) (c : TD) (ms : List (List UInt8)) (big : Bool) (regs data : Int) : Prop :=
  ∃ B Lo P cap ps pc mv, w0.heap.size ≤ B ∧ v = stV P n cap c pc mv big regs data ∧ StB B Lo w P n f ps c pc ms mv

theorem StB.set10 {B Lo : Nat} {w : World} {P n : Nat} {f : Nat → TD} {ps : Nat → Value} {c : TD} {pc : Value} {ms : List (List UInt8)} {mv : Value} (h : StB B Lo w P n f ps c pc ms mv) {g : Nat} (hg : g < B) (x0 x1 x2 x3 x4 x5 x6 x7 x8 x9 : Value) :
    StB B Lo (Go.Proofs.YtblhmeidbjigaaaGreatDoor.set10 w g x0 x1 x2 x3 x4 x5 x6 x7 x8 x9) P n f ps c pc ms mv := by
  have one : ∀ {V : World} (i : Nat) (u : Value), StB B Lo V P n f ps c pc ms mv → StB B Lo (V.setCell ⟨g, i, none⟩ u) P n f ps c pc ms mv := fun i u h => by
    have hL : g < Lo := by have := h.hP; have := h.hP'; omega
    exact ⟨h.pl.off (by have := h.hP; omega) i u, fun k hk => (h.parts k hk).under hL i u, h.pc.under hL i u, owns_unset h.mrk (h.mkne hL) u, h.hP, h.hP'⟩
  exact one _ _ (one _ _ (one _ _ (one _ _ (one _ _ (one _ _ (one _ _ (one _ _ (one _ _ (one _ _ h)))))))))

theorem plain_get {regs slots : Int} {n : Nat} (hn : (n : Int) = regs + slots) (i : Nat) (hi : i < n) : firstT (plainNames regs slots) (i : Int) = if (i : Int) < regs then .leaf 101 i else .leaf 102 i := by
  have hl : (plainNames regs slots).length = n := by unfold plainNames; simp; omega
  have hg : (plainNames regs slots).getD (i : Int).toNat 0 = if (i : Int) < regs then (i : Int) else -1 := by
    unfold plainNames
    have : i < (regs + slots).toNat := by omega
    simp [List.getD, this]
  unfold firstT
  rw [if_neg (by omega), hg]
  by_cases h : (i : Int) < regs
  · rw [if_pos h, if_neg (by omega), if_pos h]
  · rw [if_neg h, if_pos (by omega), if_neg h]

theorem plain_up (k i : Nat) : upT (fun i : Nat => if i < k then TD.leaf 101 (i : Int) else TD.leaf 102 (i : Int)) k (.leaf 101 (k : Int)) i = if i < k + 1 then TD.leaf 101 (i : Int) else TD.leaf 102 (i : Int) := by
  unfold upT
  by_cases q : i = k
  · subst q; simp
  · by_cases q2 : i < k
    · simp [q, q2, show i < k + 1 by omega]
    · simp [q, q2, show ¬ i < k + 1 by omega]

theorem first_end {names : List Int} {n : Nat} (h : names.length = n) : firstT names (n : Int) = .leaf 103 0 := by
  unfold firstT; rw [if_pos (by omega)]

theorem plain_length {regs slots : Int} {n : Nat} (hn : (n : Int) = regs + slots) : (plainNames regs slots).length = n := by unfold plainNames; simp; omega

theorem plain_small {regs slots : Int} (hr : regs ≤ 100) : ∀ x ∈ plainNames regs slots, x ≤ 1000 := by
  intro x hx
  unfold plainNames at hx
  obtain ⟨i, _, rfl⟩ := List.mem_map.1 hx
  split <;> omega

/-- What a place begins with, when the first k pairs are laid. -/
def pairT (ps : List PairD) (i : Nat) : TD := match ps.find? (fun x => decide (x.place = (i : Int))) with | some x => .leaf 101 x.reg | none => .leaf 102 i

set_option maxRecDepth 100000 in
set_option maxHeartbeats 4000000 in
theorem cBlock_cps (p : ProgD) (pv : Value) (b : Nat) (n : Nat) (hn : (n : Int) = p.regs + p.slots) (hg : progGood p = true) (hb : b < p.blocks.length) (w : World) (hrd : RdBlocks w pv p.blocks) (ht : TabW w) (Post : Ending → World → Prop)
    (hbig : bigT p.regs p.slots (plainNames p.regs p.slots) (bops p.blocks b) = true → ∀ v w' f c ms, StV w w' v n f c ms true p.regs p.data → Below w.heap.size w w' → Post (.returned v) w')
    (hok : bigT p.regs p.slots (plainNames p.regs p.slots) (bops p.blocks b) = false → ∀ v w', StV w w' v n (fun i : Nat => behindT p.regs p.slots (plainNames p.regs p.slots) (bops p.blocks b) (bops p.blocks b).length (i : Int)) (behindT p.regs p.slots (plainNames p.regs p.slots) (bops p.blocks b) (bops p.blocks b).length (n : Int)) (marksT p.regs p.slots p.data (plainNames p.regs p.slots) (bops p.blocks b) (bops p.blocks b).length) false p.regs p.data → Below w.heap.size w w' → Post (.returned v) w') :
    Calls Tryz.prog 67 #[progV p pv, .int .i64 b] w Post := by
  obtain ⟨hr, hargs, hdata, hs⟩ := good_shape hg
  obtain ⟨h12, hops⟩ := good_block hg hb
  obtain ⟨bo, bc, hpv, hll, hcc⟩ := id hrd
  obtain ⟨bn, hbn⟩ : ∃ bn, bn = p.blocks.length := ⟨_, rfl⟩
  rw [← hbn] at hpv
  subst hpv
  have HBN := Lib.hid hbn
  clear hbn
  obtain ⟨bb, boff, sv, rfl, y0, y1, y2, y3, y4, hro⟩ := hcc b hb
  clear hcc
  have hb0 : Below w.heap.size w ((w.alloc (.cells #[.int .i64 p.args, .int .i64 p.regs, .int .i64 p.data, .int .i64 p.slots, .slice (some ⟨bb, boff, none⟩) bn bc] 33)).alloc (.cells #[.slice none 0 0, .int .i64 0, .int .i64 0, .slice none 0 0, .int .i64 0, .string ⟨#[]⟩, .slice none 0 0, .bool false, .int .i64 0, .int .i64 0] 121)) := ((Below.refl _ _).alloc (Nat.le_refl _) _).alloc (by simp) _
  have ro : Row ((w.alloc (.cells #[.int .i64 p.args, .int .i64 p.regs, .int .i64 p.data, .int .i64 p.slots, .slice (some ⟨bb, boff, none⟩) bn bc] 33)).alloc (.cells #[.slice none 0 0, .int .i64 0, .int .i64 0, .slice none 0 0, .int .i64 0, .string ⟨#[]⟩, .slice none 0 0, .bool false, .int .i64 0, .int .i64 0] 121)) w.heap.size 33 [.int .i64 p.args, .int .i64 p.regs, .int .i64 p.data, .int .i64 p.slots, .slice (some ⟨bb, boff, none⟩) bn bc] := Row.alloc (heap_alloc_new w _) _
  have rg : Row ((w.alloc (.cells #[.int .i64 p.args, .int .i64 p.regs, .int .i64 p.data, .int .i64 p.slots, .slice (some ⟨bb, boff, none⟩) bn bc] 33)).alloc (.cells #[.slice none 0 0, .int .i64 0, .int .i64 0, .slice none 0 0, .int .i64 0, .string ⟨#[]⟩, .slice none 0 0, .bool false, .int .i64 0, .int .i64 0] 121)) (w.heap.size + 1) 121 [.slice none 0 0, .int .i64 0, .int .i64 0, .slice none 0 0, .int .i64 0, .string ⟨#[]⟩, .slice none 0 0, .bool false, .int .i64 0, .int .i64 0] := heap_alloc2_new w _ _
  have HZ : Hid (((w.alloc (.cells #[.int .i64 p.args, .int .i64 p.regs, .int .i64 p.data, .int .i64 p.slots, .slice (some ⟨bb, boff, none⟩) bn bc] 33)).alloc (.cells #[.slice none 0 0, .int .i64 0, .int .i64 0, .slice none 0 0, .int .i64 0, .string ⟨#[]⟩, .slice none 0 0, .bool false, .int .i64 0, .int .i64 0] 121)).heap.size = w.heap.size + 2) := by show _ = _; simp
  have q1 := fun P' => cBegin_cps p.args p.regs p.data p.slots (.slice (some ⟨bb, boff, none⟩) bn bc) ⟨_, _, _, rfl⟩ n hn (by omega) (by omega) ((w.alloc (.cells #[.int .i64 p.args, .int .i64 p.regs, .int .i64 p.data, .int .i64 p.slots, .slice (some ⟨bb, boff, none⟩) bn bc] 33)).alloc (.cells #[.slice none 0 0, .int .i64 0, .int .i64 0, .slice none 0 0, .int .i64 0, .string ⟨#[]⟩, .slice none 0 0, .bool false, .int .i64 0, .int .i64 0] 121)) (ht.keep hb0) P'
  have HRO := Lib.hid ro
  have HRG := Lib.hid rg
  have HB0 := Lib.hid hb0
  have HT := Lib.hid ht
  have HP1 := Lib.hid hbig
  have HP2 := Lib.hid hok
  have HR := Lib.hid hrd
  have HOPS := Lib.hid hro
  have HN := Lib.hid hn
  have Hn1 : n ≤ 200 := by omega
  have Hn2 : p.regs ≤ n := by omega
  unfold progV
  clear hbig hok ro rg hb0 ht hrd hn hro
  go_enter Tryz.func67, Tryz.ntmps67
  go_wp2_with fail
  refine q1 _ ?_
  intro P cap w1 hP hP' hpl b1 hz1
  have hzz := HZ.out
  have hX : Below w1.heap.size w1 (w1.alloc (.cells #[.slice (some ⟨P, 0, none⟩) n cap, .int .i64 0, .int .i64 0, .slice none 0 0, .int .i64 1, .string ⟨#[109]⟩, .slice none 0 0, .bool false, .int .i64 p.regs, .int .i64 p.data] 121)) := (Below.refl _ _).alloc (Nat.le_refl _) _
  have hzX : w1.heap.size + 1 ≤ (w1.alloc (.cells #[.slice (some ⟨P, 0, none⟩) n cap, .int .i64 0, .int .i64 0, .slice none 0 0, .int .i64 1, .string ⟨#[109]⟩, .slice none 0 0, .bool false, .int .i64 p.regs, .int .i64 p.data] 121)).heap.size := by simp
  have U1 : StU (w.heap.size + 2) (w1.heap.size + 1) (w1.alloc (.cells #[.slice (some ⟨P, 0, none⟩) n cap, .int .i64 0, .int .i64 0, .slice none 0 0, .int .i64 1, .string ⟨#[109]⟩, .slice none 0 0, .bool false, .int .i64 p.regs, .int .i64 p.data] 121)) w1.heap.size P cap n (fun i => .leaf 102 i) (fun _ => .slice none 0 0) (.leaf 103 0) (.slice none 0 0) [] (.slice none 0 0) false p.regs p.data := by
    refine ⟨?_, ⟨hpl.keep hX, fun i hi => ⟨rfl, hzX⟩, ⟨rfl, hzX⟩, World.ownsRow_nil _ _ _ _, by rw [hzz] at hP; exact hP, by omega⟩, by rw [hzz] at hz1; omega, by omega, by omega⟩
    have := heap_alloc_new w1 (.cells #[.slice (some ⟨P, 0, none⟩) n cap, .int .i64 0, .int .i64 0, .slice none 0 0, .int .i64 1, .string ⟨#[109]⟩, .slice none 0 0, .bool false, .int .i64 p.regs, .int .i64 p.data] 121)
    exact this
  have hBX : Below (w.heap.size + 2) ((w.alloc (.cells #[.int .i64 p.args, .int .i64 p.regs, .int .i64 p.data, .int .i64 p.slots, .slice (some ⟨bb, boff, none⟩) bn bc] 33)).alloc (.cells #[.slice none 0 0, .int .i64 0, .int .i64 0, .slice none 0 0, .int .i64 0, .string ⟨#[]⟩, .slice none 0 0, .bool false, .int .i64 0, .int .i64 0] 121)) (w1.alloc (.cells #[.slice (some ⟨P, 0, none⟩) n cap, .int .i64 0, .int .i64 0, .slice none 0 0, .int .i64 1, .string ⟨#[109]⟩, .slice none 0 0, .bool false, .int .i64 p.regs, .int .i64 p.data] 121)) := by
    rw [hzz] at b1
    exact b1.trans (hX.mono (by rw [hzz] at hz1; omega))
  have H0 : StAt (w.heap.size + 2) (w1.heap.size + 1) (w1.alloc (.cells #[.slice (some ⟨P, 0, none⟩) n cap, .int .i64 0, .int .i64 0, .slice none 0 0, .int .i64 1, .string ⟨#[109]⟩, .slice none 0 0, .bool false, .int .i64 p.regs, .int .i64 p.data] 121)) w1.heap.size P cap n (fun i : Nat => if i < 0 then .leaf 101 (i : Int) else .leaf 102 (i : Int)) (.leaf 103 0) [] false p.regs p.data := U1.at.congr (fun i _ => by simp [pairT]) rfl rfl rfl
  have HH0 := Lib.hid H0
  have HBX := Lib.hid hBX
  clear q1 hpl b1 hX hzX U1 H0 hBX hz1 hzz hP hP'
  go_wp2
  generalize w1.heap.size + 1 = Lo at *
  generalize w1.heap.size = M at *
  go_loopw [6] (fun i wr => ∃ (k : Nat), k ≤ p.regs.toNat ∧ i = .int .i64 k ∧ StAt (w.heap.size + 2) Lo wr M P cap n (fun i : Nat => if i < k then .leaf 101 (i : Int) else .leaf 102 (i : Int)) (.leaf 103 0) [] false p.regs p.data ∧ Below (w.heap.size + 2) ((w.alloc (.cells #[.int .i64 p.args, .int .i64 p.regs, .int .i64 p.data, .int .i64 p.slots, .slice (some ⟨bb, boff, none⟩) bn bc] 33)).alloc (.cells #[.slice none 0 0, .int .i64 0, .int .i64 0, .slice none 0 0, .int .i64 0, .string ⟨#[]⟩, .slice none 0 0, .bool false, .int .i64 0, .int .i64 0] 121)) wr)
    (fun i _ => p.regs.toNat - (intOf i).toNat)
  case atStart => exact ⟨0, Nat.zero_le _, rfl, HH0.out, HBX.out⟩
  case round =>
    clear HH0 HBX
    obtain ⟨k, hk, rfl, hst, hB⟩ := hrel
    have hzz := HZ.out
    have ro := HRO.out.below hB (by omega)
    have x1 := ro.cell (i := 1) rfl
    have hBw : Below w.heap.size w wr := HB0.out.trans (hB.mono (by omega))
    by_cases hlt : k < p.regs.toNat
    · obtain ⟨ps, pc, mv, U⟩ := hst
      have d0 : Below wr.heap.size wr wr.drew := (Below.refl _ _).drew
      have nM : M ≠ P := Ne.symm U.ne
      have m0 := fun V (h : Keep (fun g => g = P) wr V) => h.cell nM (U.row.cell (i := 0) rfl)
      have k0 : Keep (fun g => g = P) wr wr.drew := (Keep.refl _ _).below d0 (Nat.le_refl _)
      have ha : k < n := by omega
      have hw : W64 (k : Int) := by constructor <;> omega
      have hai : (0 : Int) ≤ (k : Int) := by omega
      have haj : (k : Int) < (n : Int) := by omega
      have q2 := cOfRegister_any (k : Int) hw wr.drew (HT.out.keep (hBw.trans (d0.mono hBw.size)))
      unfold termV at q2
      have HU := Lib.hid U
      have HBr := Lib.hid hB
      have hreg : (k : Int) < p.regs ∨ True := .inr trivial
      clear U ro hB hBw hreg
      have hkr : (k : Int) < p.regs := by omega
      go_wp2
      go_region_held3 (fun V => Keep (fun g => g = P) wr V) (first | with_reducible exact k0 | with_reducible exact k2 | with_reducible exact k3) (first | (go_at_call 105; refine q2.mono ?_; rintro er w2 ⟨rfl, b2⟩; have b3 : Below wr.heap.size wr w2 := d0.trans (b2.mono d0.size); have k2 : Keep (fun g => g = P) wr w2 := (Keep.refl _ _).below b3 (Nat.le_refl _); have U2 := HU.out.next b3; have p2 : PartsAt Lo w2 (.leaf 101 (k : Int)) (.slice none 0 0) := ⟨rfl, U2.b.pc.lo⟩; have U5 := U2.place ha p2; have HM5 := ((Mv.of b3 HU.out.le : Mv (w.heap.size + 2) Lo wr w2)).putT U2.b.hP U2.b.hP' (k * 5) (.leaf 101 (k : Int)) (.slice none 0 0); have HU5 := Lib.hid (And.intro U5.at HM5.low); unfold putT put5 at HU5; have k3 := ((((k2.setCell (p := ⟨P, k * 5, none⟩) (.inl rfl) (.int .i64 (ckind (.leaf 101 (k : Int))))).setCell (p := ⟨P, k * 5 + 1, none⟩) (.inl rfl) (.int .i64 (cval (.leaf 101 (k : Int))))).setCell (p := ⟨P, k * 5 + 2, none⟩) (.inl rfl) (.slice none 0 0)).setCell (p := ⟨P, k * 5 + 3, none⟩) (.inl rfl) (.int .i64 (TD.size (.leaf 101 (k : Int))))).setCell (p := ⟨P, k * 5 + 4, none⟩) (.inl rfl) (.string (str (showT (.leaf 101 (k : Int))))); have h0 := U2.b.pl.frozen (k * 5); have h1 := U2.b.pl.frozen (k * 5 + 1); have h2 := U2.b.pl.frozen (k * 5 + 2); have h3 := U2.b.pl.frozen (k * 5 + 3); have h4 := U2.b.pl.frozen (k * 5 + 4); have s0 := U2.b.pl.cell (j := 0) ha rfl; have s1 := U2.b.pl.cell (j := 1) ha rfl; have s2 := U2.b.pl.cell (j := 2) ha rfl; have s3 := U2.b.pl.cell (j := 3) ha rfl; have s4 := U2.b.pl.cell (j := 4) ha rfl; rw [Nat.add_zero] at s0; obtain ⟨qo', qn', qc', hpq⟩ := (U2.b.parts k ha).slice; rw [hpq] at s2; clear hpq U5 HM5))
      go_wp2
      have h9 := HU5.out.1.congr (g := (fun i : Nat => if i < (k + 1) then .leaf 101 (i : Int) else .leaf 102 (i : Int))) (fun i _ => plain_up k i) rfl rfl rfl
      have b9 := HBr.out.trans HU5.out.2
      clear HU5 HU HBr U2 k0 k2 k3 b2 b3 q2
      go_roundw
      case rel => exact ⟨k + 1, by omega, by go_num, h9, b9⟩
      case measure => simp [intOf]; omega
    · obtain rfl : k = p.regs.toNat := by omega
      have hend : ¬ (((p.regs.toNat : Nat) : Int) < p.regs) := by omega
      have x4 := ro.cell (i := 4) rfl
      have e0 := cell_keep hBw y0
      have hbi : (0 : Int) ≤ (b : Int) := by omega
      have hbj : (b : Int) < (bn : Int) := by have := HBN.out; omega
      have hst2 : StAt (w.heap.size + 2) Lo wr M P cap n (fun i : Nat => firstT (plainNames p.regs p.slots) (i : Int)) (firstT (plainNames p.regs p.slots) (n : Int)) [] false p.regs p.data := hst.congr (fun i hi => by rw [plain_get HN.out i hi]; by_cases q : (i : Int) < p.regs; (rw [if_pos (show i < p.regs.toNat by omega), if_pos q]); (rw [if_neg (show ¬ i < p.regs.toNat by omega), if_neg q])) (by rw [first_end (plain_length HN.out)]) rfl rfl
      have q3 := fun P' => cDoAll_cps hst2 HN.out (by omega) (by omega) (plain_small (by omega)) (bops p.blocks b) h12 hops sv (fun V hv => HOPS.out.keep (hBw.trans (hv.mono (by omega)))) (fun V hv => HT.out.keep (hBw.trans (hv.mono (by omega)))) P'
      obtain ⟨so, sn, sc, rfl⟩ : ∃ so sn sc, sv = .slice so sn sc := let ⟨so, sc, e, _⟩ := HOPS.out; ⟨so, _, sc, e⟩
      clear hst hst2 ro hBw
      go_wp2_with fail
      refine q3 _ ?_ ?_
      · intro hbg w3 f3 c3' ms3 h3 m3
        obtain ⟨ps3, pc3, mv3, U3⟩ := h3
        obtain ⟨c3, hc3⟩ : ∃ c3, c3 = c3' := ⟨_, rfl⟩
        rw [← hc3] at U3
        obtain ⟨co, cn, cc, rfl⟩ := U3.b.pc.slice
        obtain ⟨mo, mc, hmv⟩ := owns_slice U3.b.mrk
        subst hmv
        obtain ⟨mn, hmn⟩ : ∃ mn, mn = (ms3).length := ⟨_, rfl⟩
        rw [← hmn] at U3
        have b3 : Below (w.heap.size + 2) ((w.alloc (.cells #[.int .i64 p.args, .int .i64 p.regs, .int .i64 p.data, .int .i64 p.slots, .slice (some ⟨bb, boff, none⟩) bn bc] 33)).alloc (.cells #[.slice none 0 0, .int .i64 0, .int .i64 0, .slice none 0 0, .int .i64 0, .string ⟨#[]⟩, .slice none 0 0, .bool false, .int .i64 0, .int .i64 0] 121)) w3 := hB.trans m3.low
        have rg3 := HRG.out.below b3 (by omega)
        have hS := U3.b.set10 (g := w.heap.size + 1) (by omega) (.slice (some ⟨P, 0, none⟩) n cap) (.int .i64 (ckind c3)) (.int .i64 (cval c3)) (.slice co cn cc) (.int .i64 c3.size) (.string (str (showT c3))) (.slice mo mn mc) (.bool true) (.int .i64 p.regs) (.int .i64 p.data)
        have hb3 : Below w.heap.size w (set10 w3 (w.heap.size + 1) (.slice (some ⟨P, 0, none⟩) n cap) (.int .i64 (ckind c3)) (.int .i64 (cval c3)) (.slice co cn cc) (.int .i64 c3.size) (.string (str (showT c3))) (.slice mo mn mc) (.bool true) (.int .i64 p.regs) (.int .i64 p.data)) := by
          have k3 : Keep (fun g => g = w.heap.size + 1) w3 (set10 w3 (w.heap.size + 1) (.slice (some ⟨P, 0, none⟩) n cap) (.int .i64 (ckind c3)) (.int .i64 (cval c3)) (.slice co cn cc) (.int .i64 c3.size) (.string (str (showT c3))) (.slice mo mn mc) (.bool true) (.int .i64 p.regs) (.int .i64 p.data)) := (Keep.refl (fun g => g = w.heap.size + 1) w3).set10 (g := w.heap.size + 1) rfl _ _ _ _ _ _ _ _ _ _
          exact (HB0.out.trans (b3.mono (by omega))).trans (k3.toBelow (by have := b3.size; have := HZ.out; omega) (fun g e => by omega))
        have hv : StV w (set10 w3 (w.heap.size + 1) (.slice (some ⟨P, 0, none⟩) n cap) (.int .i64 (ckind c3)) (.int .i64 (cval c3)) (.slice co cn cc) (.int .i64 c3.size) (.string (str (showT c3))) (.slice mo mn mc) (.bool true) (.int .i64 p.regs) (.int .i64 p.data)) (stV P n cap c3 (.slice co cn cc) (.slice mo mn mc) true p.regs p.data) n f3 c3 (ms3) true p.regs p.data := ⟨w.heap.size + 2, Lo, P, cap, ps3, .slice co cn cc, .slice mo mn mc, by omega, rfl, hS⟩
        rw [hc3] at hv
        have HF := Lib.hid (HP1.out hbg _ _ f3 c3' ms3 hv (by rw [hc3] at hb3; exact hb3))
        rw [← hc3] at HF
        clear hv
        unfold stV set10 at HF
        have mm0 := U3.row.cell (i := 0) rfl
        have z0 := rg3.cell (i := 0) rfl
        have f0 := rg3.frozen 0
        have mm1 := U3.row.cell (i := 1) rfl
        have z1 := rg3.cell (i := 1) rfl
        have f1 := rg3.frozen 1
        have mm2 := U3.row.cell (i := 2) rfl
        have z2 := rg3.cell (i := 2) rfl
        have f2 := rg3.frozen 2
        have mm3 := U3.row.cell (i := 3) rfl
        have z3 := rg3.cell (i := 3) rfl
        have f3 := rg3.frozen 3
        have mm4 := U3.row.cell (i := 4) rfl
        have z4 := rg3.cell (i := 4) rfl
        have f4 := rg3.frozen 4
        have mm5 := U3.row.cell (i := 5) rfl
        have z5 := rg3.cell (i := 5) rfl
        have f5 := rg3.frozen 5
        have mm6 := U3.row.cell (i := 6) rfl
        have z6 := rg3.cell (i := 6) rfl
        have f6 := rg3.frozen 6
        have mm7 := U3.row.cell (i := 7) rfl
        have z7 := rg3.cell (i := 7) rfl
        have f7 := rg3.frozen 7
        have mm8 := U3.row.cell (i := 8) rfl
        have z8 := rg3.cell (i := 8) rfl
        have f8 := rg3.frozen 8
        have mm9 := U3.row.cell (i := 9) rfl
        have z9 := rg3.cell (i := 9) rfl
        have f9 := rg3.frozen 9
        clear hS hb3 U3 rg3 b3 m3 hc3 hmn HRO HRG HB0 HP1 HP2
        go_wp2
        (try simp only [Exit.inBlock, Exit.then])
        refine bodyPost_ret (v := .agg #[.slice (some ⟨P, 0, none⟩) n cap, .int .i64 (ckind c3), .int .i64 (cval c3), .slice co cn cc, .int .i64 c3.size, .string (str (showT c3)), .slice mo mn mc, .bool true, .int .i64 p.regs, .int .i64 p.data]) ?_ rfl ?_
        · simp [results, Tryz.results67, go_sem, z0, z1, z2, z3, z4, z5, z6, z7, z8, z9]
        · exact HF.out
      · intro hbg w3 h3 m3
        obtain ⟨ps3, pc3, mv3, U3⟩ := h3
        obtain ⟨c3, hc3⟩ : ∃ c3, c3 = behindT p.regs p.slots (plainNames p.regs p.slots) (bops p.blocks b) (bops p.blocks b).length (n : Int) := ⟨_, rfl⟩
        rw [← hc3] at U3
        obtain ⟨co, cn, cc, rfl⟩ := U3.b.pc.slice
        obtain ⟨mo, mc, hmv⟩ := owns_slice U3.b.mrk
        subst hmv
        obtain ⟨mn, hmn⟩ : ∃ mn, mn = (marksT p.regs p.slots p.data (plainNames p.regs p.slots) (bops p.blocks b) (bops p.blocks b).length).length := ⟨_, rfl⟩
        rw [← hmn] at U3
        have b3 : Below (w.heap.size + 2) ((w.alloc (.cells #[.int .i64 p.args, .int .i64 p.regs, .int .i64 p.data, .int .i64 p.slots, .slice (some ⟨bb, boff, none⟩) bn bc] 33)).alloc (.cells #[.slice none 0 0, .int .i64 0, .int .i64 0, .slice none 0 0, .int .i64 0, .string ⟨#[]⟩, .slice none 0 0, .bool false, .int .i64 0, .int .i64 0] 121)) w3 := hB.trans m3.low
        have rg3 := HRG.out.below b3 (by omega)
        have hS := U3.b.set10 (g := w.heap.size + 1) (by omega) (.slice (some ⟨P, 0, none⟩) n cap) (.int .i64 (ckind c3)) (.int .i64 (cval c3)) (.slice co cn cc) (.int .i64 c3.size) (.string (str (showT c3))) (.slice mo mn mc) (.bool false) (.int .i64 p.regs) (.int .i64 p.data)
        have hb3 : Below w.heap.size w (set10 w3 (w.heap.size + 1) (.slice (some ⟨P, 0, none⟩) n cap) (.int .i64 (ckind c3)) (.int .i64 (cval c3)) (.slice co cn cc) (.int .i64 c3.size) (.string (str (showT c3))) (.slice mo mn mc) (.bool false) (.int .i64 p.regs) (.int .i64 p.data)) := by
          have k3 : Keep (fun g => g = w.heap.size + 1) w3 (set10 w3 (w.heap.size + 1) (.slice (some ⟨P, 0, none⟩) n cap) (.int .i64 (ckind c3)) (.int .i64 (cval c3)) (.slice co cn cc) (.int .i64 c3.size) (.string (str (showT c3))) (.slice mo mn mc) (.bool false) (.int .i64 p.regs) (.int .i64 p.data)) := (Keep.refl (fun g => g = w.heap.size + 1) w3).set10 (g := w.heap.size + 1) rfl _ _ _ _ _ _ _ _ _ _
          exact (HB0.out.trans (b3.mono (by omega))).trans (k3.toBelow (by have := b3.size; have := HZ.out; omega) (fun g e => by omega))
        have hv : StV w (set10 w3 (w.heap.size + 1) (.slice (some ⟨P, 0, none⟩) n cap) (.int .i64 (ckind c3)) (.int .i64 (cval c3)) (.slice co cn cc) (.int .i64 c3.size) (.string (str (showT c3))) (.slice mo mn mc) (.bool false) (.int .i64 p.regs) (.int .i64 p.data)) (stV P n cap c3 (.slice co cn cc) (.slice mo mn mc) false p.regs p.data) n (fun i : Nat => behindT p.regs p.slots (plainNames p.regs p.slots) (bops p.blocks b) (bops p.blocks b).length (i : Int)) c3 (marksT p.regs p.slots p.data (plainNames p.regs p.slots) (bops p.blocks b) (bops p.blocks b).length) false p.regs p.data := ⟨w.heap.size + 2, Lo, P, cap, ps3, .slice co cn cc, .slice mo mn mc, by omega, rfl, hS⟩
        rw [hc3] at hv
        have HF := Lib.hid (HP2.out hbg _ _ hv (by rw [hc3] at hb3; exact hb3))
        rw [← hc3] at HF
        clear hv
        unfold stV set10 at HF
        have mm0 := U3.row.cell (i := 0) rfl
        have z0 := rg3.cell (i := 0) rfl
        have f0 := rg3.frozen 0
        have mm1 := U3.row.cell (i := 1) rfl
        have z1 := rg3.cell (i := 1) rfl
        have f1 := rg3.frozen 1
        have mm2 := U3.row.cell (i := 2) rfl
        have z2 := rg3.cell (i := 2) rfl
        have f2 := rg3.frozen 2
        have mm3 := U3.row.cell (i := 3) rfl
        have z3 := rg3.cell (i := 3) rfl
        have f3 := rg3.frozen 3
        have mm4 := U3.row.cell (i := 4) rfl
        have z4 := rg3.cell (i := 4) rfl
        have f4 := rg3.frozen 4
        have mm5 := U3.row.cell (i := 5) rfl
        have z5 := rg3.cell (i := 5) rfl
        have f5 := rg3.frozen 5
        have mm6 := U3.row.cell (i := 6) rfl
        have z6 := rg3.cell (i := 6) rfl
        have f6 := rg3.frozen 6
        have mm7 := U3.row.cell (i := 7) rfl
        have z7 := rg3.cell (i := 7) rfl
        have f7 := rg3.frozen 7
        have mm8 := U3.row.cell (i := 8) rfl
        have z8 := rg3.cell (i := 8) rfl
        have f8 := rg3.frozen 8
        have mm9 := U3.row.cell (i := 9) rfl
        have z9 := rg3.cell (i := 9) rfl
        have f9 := rg3.frozen 9
        clear hS hb3 U3 rg3 b3 m3 hc3 hmn HRO HRG HB0 HP1 HP2
        go_wp2
        (try simp only [Exit.inBlock, Exit.then])
        refine bodyPost_ret (v := .agg #[.slice (some ⟨P, 0, none⟩) n cap, .int .i64 (ckind c3), .int .i64 (cval c3), .slice co cn cc, .int .i64 c3.size, .string (str (showT c3)), .slice mo mn mc, .bool false, .int .i64 p.regs, .int .i64 p.data]) ?_ rfl ?_
        · simp [results, Tryz.results67, go_sem, z0, z1, z2, z3, z4, z5, z6, z7, z8, z9]
        · exact HF.out


end Go.Proofs.YtblhmeidbjigaaaGreatDoor

/- P12 (4) as the code goes about it; pure. -/
set_option linter.unusedSimpArgs false
set_option linter.unusedVariables false
noncomputable section
namespace Go.Proofs.YtblhmeidbjigaaaGreatDoor
open Go.RowKit Classical

/-- A mark's text. -/
def showM : MD → List UInt8
  | .cell u => 64 :: 32 :: showT u
  | .div u v => 47 :: 32 :: (showT u ++ 32 :: showT v)

def MD.fine : MD → Prop
  | .cell u => u.fine
  | .div u v => u.fine ∧ v.fine

theorem stops_sp (x : List UInt8) : Stops (32 :: x) := fun a b e => by
  first
  | (cases e; decide)
  | (cases e; simp)
  | skip

theorem stops_nil : Stops [] := fun _ _ e => by cases e

theorem showM_inj {m n : MD} (hm : m.fine) (hn : n.fine) (h : showM m = showM n) : m = n := by
  cases m with
  | cell u =>
    cases n with
    | cell v => simp only [showM, List.cons.injEq, true_and] at h; rw [show_inj hm.ok hn.ok h]
    | div v w => simp [showM] at h
  | div u v =>
    cases n with
    | cell w => simp [showM] at h
    | div u' v' =>
      simp only [showM, List.cons.injEq, true_and] at h
      obtain ⟨rfl, e⟩ := show_cut u u' (32 :: showT v) (32 :: showT v') hm.1.ok hn.1.ok (stops_sp _) (stops_sp _) h
      simp only [List.cons.injEq, true_and] at e
      rw [show_inj hm.2.ok hn.2.ok e]

theorem div_text (u v : TD) (data : Int) : divText u v = if idle data (.div u v) = true then [] else showM (.div u v) := by
  unfold divText
  simp only [idle, showM]
  rcases Option.eq_none_or_eq_some u.isNum with hb | ⟨x, hb⟩
  · simp [hb]
  · rcases Option.eq_none_or_eq_some v.isNum with hc | ⟨y, hc⟩
    · simp [hb, hc]
    · by_cases hy : y = 0 <;> simp [hb, hc, hy]

theorem cell_text (u : TD) (data : Int) : cellText data u = if idle data (.cell u) = true then [] else showM (.cell u) := by
  unfold cellText
  simp only [idle, showM]
  rcases Option.eq_none_or_eq_some u.isNum with hb | ⟨x, hb⟩
  · simp [hb]
  · by_cases hx : 0 ≤ x ∧ x < data
    · simp [hb, hx]
    · have : ¬ (0 ≤ x ∧ x < data) := hx
      simp only [hb]
      rw [if_neg hx, if_neg (by simpa using hx)]

theorem opMark_text (data : Int) (was : Int → TD) (o : OpD) : opMarkT data was o = match opMark was o with | none => [] | some m => if idle data m = true then [] else showM m := by
  unfold opMarkT opMark
  by_cases h1 : o.kind = 11
  · rw [if_pos h1, if_pos h1, div_text _ _ data]
  · rw [if_neg h1, if_neg h1]
    by_cases h2 : o.kind = 12
    · rw [if_pos h2, if_pos h2, cell_text]
    · rw [if_neg h2, if_neg h2]
      by_cases h3 : o.kind = 13
      · rw [if_pos h3, if_pos h3, cell_text]
      · rw [if_neg h3, if_neg h3]

theorem showM_ne (m : MD) : showM m ≠ [] := by cases m <;> simp [showM]

theorem map_mem_fine {l : List MD} {m : MD} (hl : ∀ x ∈ l, x.fine) (hm : m.fine) : showM m ∈ l.map showM ↔ m ∈ l := by
  constructor
  · intro h
    obtain ⟨x, hx, e⟩ := List.mem_map.1 h
    rw [← showM_inj (hl x hx) hm e]; exact hx
  · exact fun h => List.mem_map_of_mem h

theorem marks_show {regs slots data : Int} {names : List Int} {ops : List OpD} (hf : ∀ k, k ≤ ops.length → ∀ i : Int, 0 ≤ i → i ≤ regs + slots → (behindT regs slots names ops k i).fine) (hg : opsGood regs slots ops = true) (hr : 0 ≤ regs) (hs : 0 ≤ slots) :
    ∀ k, k ≤ ops.length → marksT regs slots data names ops k = (marksD regs slots data names ops k).map showM ∧ ∀ m ∈ marksD regs slots data names ops k, m.fine := by
  intro k
  induction k with
  | zero => intro _; exact ⟨rfl, fun m hm => by simp [marksD] at hm⟩
  | succ k ih =>
    intro hk
    obtain ⟨e, hfine⟩ := ih (by omega)
    have hraw : rawMark regs slots names ops k = opMark (behindT regs slots names ops k) (ops.getD k oz) := rfl
    have hgo : opGood regs slots (ops.getD k oz) = true := good_op hg (by omega)
    have hmf : ∀ m, opMark (behindT regs slots names ops k) (ops.getD k oz) = some m → m.fine := by
      intro m hm
      unfold opMark at hm
      unfold opGood at hgo
      by_cases h1 : (ops.getD k oz).kind = 11
      · rw [if_neg (by omega), if_pos (by omega)] at hgo
        simp only [Bool.and_eq_true, below, decide_eq_true_eq] at hgo
        rw [if_pos h1] at hm
        cases hm
        exact ⟨hf k (by omega) _ (by omega) (by omega), hf k (by omega) _ (by omega) (by omega)⟩
      · rw [if_neg h1] at hm
        by_cases h2 : (ops.getD k oz).kind = 12
        · rw [if_neg (by omega), if_neg (by omega), if_pos (by omega)] at hgo
          simp only [Bool.and_eq_true, below, decide_eq_true_eq] at hgo
          rw [if_pos h2] at hm
          cases hm
          exact hf k (by omega) _ (by omega) (by omega)
        · rw [if_neg h2] at hm
          by_cases h3 : (ops.getD k oz).kind = 13
          · rw [if_neg (by omega), if_neg (by omega), if_pos (by omega)] at hgo
            simp only [Bool.and_eq_true, below, decide_eq_true_eq] at hgo
            rw [if_pos h3] at hm
            cases hm
            exact hf k (by omega) _ (by omega) (by omega)
          · rw [if_neg h3] at hm; cases hm
    rw [marks_step, opMark_text, e]
    have eD : marksD regs slots data names ops (k + 1) = match opMark (behindT regs slots names ops k) (ops.getD k oz) with
      | some m => if idle data m = true ∨ m ∈ marksD regs slots data names ops k then marksD regs slots data names ops k else marksD regs slots data names ops k ++ [m]
      | none => marksD regs slots data names ops k := rfl
    rw [eD]
    cases hm : opMark (behindT regs slots names ops k) (ops.getD k oz) with
    | none => exact ⟨by simp only; rw [laid_nil], hfine⟩
    | some m =>
      simp only
      by_cases hi : idle data m = true
      · rw [if_pos hi, if_pos (.inl hi), laid_nil]; exact ⟨rfl, hfine⟩
      · rw [if_neg hi]
        by_cases hmem : m ∈ marksD regs slots data names ops k
        · rw [if_pos (.inr hmem), laid_in ((map_mem_fine hfine (hmf m hm)).2 hmem)]; exact ⟨rfl, hfine⟩
        · rw [if_neg (by simp [hi, hmem]), laid_new (showM_ne m) (fun q => hmem ((map_mem_fine hfine (hmf m hm)).1 q))]
          refine ⟨by simp, fun x hx => ?_⟩
          rcases List.mem_append.1 hx with q | q
          · exact hfine x q
          · simp at q; rw [q]; exact hmf m hm

section
variable (p q : ProgD) (h : List PingD) (b : Nat)

end

end Go.Proofs.YtblhmeidbjigaaaGreatDoor

/- One block that halts: its terms and its marks, worked out, tell its run; pure. -/
set_option linter.unusedSimpArgs false
set_option linter.unusedVariables false
noncomputable section
namespace Go.Proofs.YtblhmeidbjigaaaGreatDoor
open Go.RowKit Classical

/-- One block that halts. -/
def oneP (R D S : Nat) (ops : List OpD) (er : Int) : ProgD := ⟨R, R, D, S, [⟨ops, ⟨3, er, 0, 0⟩⟩]⟩

/-- What there was at its begin. -/
def envS (R : Nat) (args mem spill : List Int) : EnvD := ⟨fun i => rg args i, fun p => rg spill (p - R), fun n => rg mem n⟩

theorem envS_wide {R : Nat} {args mem spill : List Int} (ha : ∀ x ∈ args, W64 x) (hm : ∀ x ∈ mem, W64 x) (hs : ∀ x ∈ spill, W64 x) : (envS R args mem spill).wide :=
  ⟨fun n => rg_wide ha n, fun p => rg_wide hs _, fun n => rg_wide hm n⟩

theorem plainN_get {R S : Nat} {i : Nat} (h : i < R + S) : (plainNames R S).getD i 0 = if i < R then (i : Int) else -1 := by
  have hl : i < ((R : Int) + (S : Int)).toNat := by omega
  simp only [plainNames, List.getD, List.getElem?_map, List.getElem?_range hl, Option.map_some, Option.getD_some]
  by_cases q : i < R
  · rw [if_pos q, if_pos (by omega)]
  · rw [if_neg q, if_neg (by omega)]

theorem plainN_len (R S : Nat) : (plainNames R S).length = R + S := by
  simp only [plainNames, List.length_map, List.length_range]
  omega

theorem plainN_le (R S : Nat) (hR : R ≤ 100) : ∀ x ∈ plainNames R S, x ≤ 1000 := by
  intro x hx
  simp only [plainNames, List.mem_map, List.mem_range] at hx
  obtain ⟨i, hi, rfl⟩ := hx
  split <;> omega

theorem holds_one {R D S : Nat} {args mem spill : List Int} (ha : args.length = R) (ops : List OpD) (p : ProgD) (hp : p.regs = R) : Holds (envS R args mem spill) R S D (plainNames R S) ops 0 (begins p args mem spill) := by
  have hreg : (begins p args mem spill).regs = args := by
    show regs0 args (p.regs - args.length).toNat = args
    rw [hp, ha]
    simp [regs0]
  refine ⟨fun i h0 h1 => ?_, fun j h0 h1 => ?_, fun n h0 h1 => ?_⟩
  · obtain ⟨i, rfl⟩ := Int.eq_ofNat_of_zero_le h0
    rw [hreg]
    simp only [behindT, firstT]
    rw [if_neg (by rw [plainN_len]; omega), Int.toNat_natCast, plainN_get (by omega), if_pos (show i < R by omega), if_neg (by omega)]
    simp [evW, evT, envS]
  · obtain ⟨j, rfl⟩ := Int.eq_ofNat_of_zero_le h0
    have e : (R : Int) + (j : Int) = ((R + j : Nat) : Int) := by omega
    simp only [behindT, firstT]
    rw [e, if_neg (by rw [plainN_len]; omega), Int.toNat_natCast, plainN_get (by omega), if_neg (show ¬ (R + j < R) by omega), if_pos (by omega)]
    have e2 : ((R + j : Nat) : Int) - (R : Int) = (j : Int) := by omega
    have e3 : evW (envS R args mem spill) (.leaf 102 ((R + j : Nat) : Int)) = rg spill (((R + j : Nat) : Int) - R) := by simp [evW, evT, envS]
    rw [e3, e2]
    rfl
  · simp only [behindT, firstT]
    rw [if_pos (by rw [plainN_len]; omega)]
    rfl

theorem op_kind {regs slots : Int} {o : OpD} (g : opGood regs slots o = true) : 1 ≤ o.kind ∧ o.kind ≤ 15 := by
  unfold opGood at g
  repeat' split at g
  all_goals first | omega | cases g

/-- Where a block is not big, no term is. -/
theorem not_big {regs slots : Int} {names : List Int} {ops : List OpD} (hg : opsGood regs slots ops = true) (hb : bigT regs slots names ops = false) : ∀ (k : Nat), k ≤ ops.length → ∀ place, (behindT regs slots names ops k place).size ≤ 4095 := by
  intro k
  induction k with
  | zero =>
    intro _ place
    simp only [behindT, firstT]
    repeat' split
    all_goals simp [TD.size]
  | succ k ih =>
    intro hk place
    have ih' := ih (by omega)
    have gk := op_kind (opsGood_getD hg (show k < ops.length by omega))
    have hbk : ¬ (3 ≤ okind ops k ∧ okind ops k ≤ 13 ∧ 4095 < (behindT regs slots names ops (k + 1) (writesT regs slots (ops.getD k oz))).size) := by
      intro h
      have : bigT regs slots names ops = true := by
        unfold bigT
        rw [List.any_eq_true]
        exact ⟨k, List.mem_range.2 (by omega), decide_eq_true h⟩
      rw [hb] at this
      cases this
    by_cases hw : writesT regs slots (ops.getD k oz) = place
    · by_cases hk3 : 3 ≤ (ops.getD k oz).kind ∧ (ops.getD k oz).kind ≤ 13
      · by_cases q : 4095 < (behindT regs slots names ops (k + 1) (writesT regs slots (ops.getD k oz))).size
        · exact absurd ⟨hk3.1, hk3.2, q⟩ hbk
        · rw [← hw]; omega
      · rw [behindT_succ, if_neg (by simpa using hw)]
        by_cases h1 : (ops.getD k oz).kind = 1
        · rw [if_pos h1]; simp [tnum, TD.size]
        rw [if_neg h1]
        by_cases h2 : (ops.getD k oz).kind = 2 ∨ (ops.getD k oz).kind = 14
        · rw [if_pos h2]; exact ih' _
        rw [if_neg h2, if_pos (by omega)]
        exact ih' _
    · rw [behindT_succ, if_pos hw]; exact ih' _

/-- Where a mark stands among the marks, and of which operation it is. -/
theorem marks_at {regs slots data : Int} {names : List Int} {ops : List OpD} : ∀ (n : Nat), n ≤ ops.length → ∀ i, i < (marksD regs slots data names ops n).length →
    ∃ k, k < n ∧ rawMark regs slots names ops k = some ((marksD regs slots data names ops n).getD i (.cell (tnum 0))) ∧ marksD regs slots data names ops k = (marksD regs slots data names ops n).take i := by
  intro n
  induction n with
  | zero => intro _ i hi; simp [marksD] at hi
  | succ n ih =>
    intro hn i hi
    have stay : marksD regs slots data names ops (n + 1) = marksD regs slots data names ops n → ∃ k, k < n + 1 ∧ rawMark regs slots names ops k = some ((marksD regs slots data names ops (n + 1)).getD i (.cell (tnum 0))) ∧ marksD regs slots data names ops k = (marksD regs slots data names ops (n + 1)).take i := by
      intro e
      rw [e] at hi ⊢
      obtain ⟨k, h1, h2, h3⟩ := ih (by omega) i hi
      exact ⟨k, by omega, h2, h3⟩
    cases hm : rawMark regs slots names ops n with
    | none => exact stay (by simp only [marksD, hm])
    | some m =>
      by_cases q : idle data m = true ∨ m ∈ marksD regs slots data names ops n
      · exact stay (by simp only [marksD, hm, if_pos q])
      · have e : marksD regs slots data names ops (n + 1) = marksD regs slots data names ops n ++ [m] := by simp only [marksD, hm, if_neg q]
        rw [e] at hi ⊢
        by_cases hil : i < (marksD regs slots data names ops n).length
        · obtain ⟨k, h1, h2, h3⟩ := ih (by omega) i hil
          refine ⟨k, by omega, ?_, ?_⟩
          · rw [h2]; simp [List.getD, List.getElem?_append, hil]
          · rw [h3, List.take_append_of_le_length (by omega)]
        · have ei : i = (marksD regs slots data names ops n).length := by simp at hi; omega
          subst ei
          refine ⟨n, by omega, ?_, ?_⟩
          · rw [hm]; simp [List.getD]
          · simp

theorem marks_le {regs slots data : Int} {names : List Int} {ops : List OpD} : ∀ n, (marksD regs slots data names ops n).length ≤ n := by
  intro n
  induction n with
  | zero => simp [marksD]
  | succ n ih =>
    simp only [marksD]
    repeat' split
    all_goals try simp only [List.length_append, List.length_singleton]
    all_goals omega

/-- A mark whose words can be worked out. -/
def safeM (r : EnvD) (regs slots data : Int) : MD → Prop
  | .cell u => safeT r regs slots data u ∧ wordT u
  | .div u v => (safeT r regs slots data u ∧ wordT u) ∧ (safeT r regs slots data v ∧ wordT v)

theorem raw_safe {r : EnvD} {R S D : Nat} {ops : List OpD} (hg : opsGood R S ops = true) {k : Nat} (hk : k < ops.length) (h0 : firstFail r D (rawMarks R S (plainNames R S) ops k) = 0) {m : MD} (hm : rawMark R S (plainNames R S) ops k = some m) : safeM r R S D m := by
  have hs := behind_safe (r := r) (data := D) (ops := ops) (show (0 : Int) ≤ (R : Int) by omega) (show (0 : Int) ≤ (S : Int) by omega) hg k (by omega) h0
  have go := opsGood_getD hg hk
  have key : ∀ x : Int, 0 ≤ x ∧ x < R → safeT r R S D (behindT R S (plainNames R S) ops k x) ∧ wordT (behindT R S (plainNames R S) ops k x) := fun x hx =>
    have h := hs x hx.1 (by omega)
    ⟨h.1, h.2.1 (by omega)⟩
  unfold rawMark at hm
  unfold opGood at go
  split at hm
  · rename_i h11
    simp only [Option.some.injEq] at hm
    subst hm
    rw [if_neg (by omega), if_pos (by omega)] at go
    simp only [Bool.and_eq_true, below, decide_eq_true_eq] at go
    exact ⟨key _ (by omega), key _ (by omega)⟩
  · split at hm
    · rename_i h12
      simp only [Option.some.injEq] at hm
      subst hm
      rw [if_neg (by omega), if_neg (by omega), if_pos (by omega)] at go
      simp only [Bool.and_eq_true, below, decide_eq_true_eq] at go
      exact key _ (by omega)
    · split at hm
      · rename_i h13
        simp only [Option.some.injEq] at hm
        subst hm
        rw [if_neg (by omega), if_neg (by omega), if_pos (by omega)] at go
        simp only [Bool.and_eq_true, below, decide_eq_true_eq] at go
        exact key _ (by omega)
      · cases hm

/-- A mark fails by 2 or 3, or not. -/
theorem fails_cases (r : EnvD) (data : Int) (m : MD) : fails r data m = 0 ∨ fails r data m = 2 ∨ fails r data m = 3 := by
  cases m <;> simp only [fails] <;> split <;> simp

theorem first_cases (r : EnvD) (data : Int) (l : List MD) : firstFail r data l = 0 ∨ firstFail r data l = 2 ∨ firstFail r data l = 3 := by
  induction l with
  | nil => exact .inl rfl
  | cons m l ih =>
    simp only [firstFail]
    split
    · exact fails_cases r data m
    · exact ih

theorem raw_none {regs slots : Int} {names : List Int} {ops : List OpD} (h : ∀ o ∈ ops, ¬ tellsT o) : ∀ k, k ≤ ops.length → rawMarks regs slots names ops k = [] := by
  intro k
  induction k with
  | zero => intro _; rfl
  | succ k ih =>
    intro hk
    have hm : rawMark regs slots names ops k = none := by
      have := h (ops.getD k oz) (by simp [List.getD, show k < ops.length by omega])
      unfold tellsT at this
      unfold rawMark
      rw [if_neg (fun e => this (.inl e)), if_neg (fun e => this (.inr (.inl e))), if_neg (fun e => this (.inr (.inr e)))]
    simp only [rawMarks, hm]
    exact ih (by omega)

/-- All that the two laws ask of a run of one block. -/
structure OneRun (R D S : Nat) (ops : List OpD) (er : Int) (args mem spill : List Int) (o : OutD) : Prop where
  kinds : o.kind = 1 ∨ o.kind = 2 ∨ o.kind = 3
  trap : o.kind ≠ 1 → firstFail (envS R args mem spill) D (marksD R S D (plainNames R S) ops ops.length) = o.kind
  none : o.kind = 1 → firstFail (envS R args mem spill) D (marksD R S D (plainNames R S) ops ops.length) = 0
  quiet : (∀ x ∈ ops, ¬ tellsT x) → o.kind = 1
  word : o.kind = 1 → evW (envS R args mem spill) (behindT R S (plainNames R S) ops ops.length er) = o.result
  cells : o.kind = 1 → cellL (envS R args mem spill) D (behindT R S (plainNames R S) ops ops.length (R + S)) = o.mem
  safe : o.kind = 1 → ∀ place : Int, 0 ≤ place → place ≤ (R : Int) + S → safeT (envS R args mem spill) R S D (behindT R S (plainNames R S) ops ops.length place) ∧ (place < (R : Int) + S → wordT (behindT R S (plainNames R S) ops ops.length place)) ∧ (place = (R : Int) + S → cellsT (behindT R S (plainNames R S) ops ops.length place))

theorem one_run {R D S : Nat} {ops : List OpD} {er : Int} {args mem spill : List Int} {o : OutD} (hg : progGood (oneP R D S ops er) = true) (hopg : opsGood R S ops = true) (her : 0 ≤ er ∧ er < R) (hR : R ≤ 8) (hS : S ≤ 8) (ha : args.length = R) (hm : mem.length = D) (hs : spill.length = S)
    (wa : ∀ x ∈ args, W64 x) (wm : ∀ x ∈ mem, W64 x) (ws : ∀ x ∈ spill, W64 x) (ho : o = runN (oneP R D S ops er).blocks 1 0 (begins (oneP R D S ops er) args mem spill)) : OneRun R D S ops er args mem spill o := by
  have hfit : fits (oneP R D S ops er) args mem spill := ⟨by rw [ha]; rfl, by rw [hm]; rfl, by rw [hs]; rfl⟩
  have hz : Sized (begins (oneP R D S ops er) args mem spill) R D S := begins_sized hg hfit
  have hw := envS_wide (R := R) wa wm ws
  have hh := holds_one (D := D) (S := S) (mem := mem) (spill := spill) ha ops (oneP R D S ops er) rfl
  have hbm := block_marks hw hh ⟨by omega, by omega⟩ ⟨by omega, by omega⟩ (plainN_le R S (by omega)) hopg hz rfl
  have e0 : bops (oneP R D S ops er).blocks 0 = ops := rfl
  have e1 : bek (oneP R D S ops er).blocks 0 = 3 := rfl
  have e2 : ber (oneP R D S ops er).blocks 0 = er := rfl
  simp only [runN, Int.toNat_zero, e0, e1, e2] at ho
  generalize hs0 : begins (oneP R D S ops er) args mem spill = s0 at *
  by_cases ht : (doOps ops s0).trap = 0
  · rw [if_neg (by rw [ht]; simp), if_pos trivial] at ho
    rw [ht] at hbm
    have hall := hh.all hw ⟨by omega, by omega⟩ ⟨by omega, by omega⟩ (plainN_le R S (by omega)) hopg hz ops.length (Nat.le_refl _) (by rw [List.take_length]; exact ht)
    rw [List.take_length] at hall
    have k1 : o.kind = 1 := by rw [ho]
    have hsz : Sized (doOps ops s0) R D S := hz.doOps _
    refine ⟨.inl k1, fun h => absurd k1 h, fun _ => hbm.symm, fun _ => k1, fun _ => ?_, fun _ => ?_, fun _ => ?_⟩
    · rw [ho]; exact hall.reg er her.1 her.2
    · rw [ho]
      show cellL _ D _ = (doOps ops s0).cells
      apply List.ext_getElem
      · have := hsz.cells
        rw [cellL_length]; omega
      · intro i h1 h2
        have hi : i < D := by rw [cellL_length] at h1; exact h1
        have h3 := hall.cell (i : Int) (by omega) (by omega)
        have e3 : (cellL (envS R args mem spill) D (behindT R S (plainNames R S) ops ops.length (R + S)))[i] = evM (envS R args mem spill) (behindT R S (plainNames R S) ops ops.length (R + S)) (i : Int) := by simp [cellL]
        rw [e3, h3]
        simp [rg, List.getD, h2]
    · rw [marks_fail] at hbm
      exact behind_safe (by omega) (by omega) hopg ops.length (Nat.le_refl _) hbm.symm
  · rw [if_pos ht] at ho
    have hk : o.kind = (doOps ops s0).trap := by rw [ho]
    have hc := first_cases (envS R args mem spill) D (marksD R S D (plainNames R S) ops ops.length)
    rw [← hbm] at hc
    have n1 : o.kind ≠ 1 := by rw [hk]; omega
    refine ⟨by rw [hk]; omega, fun _ => by rw [hk]; exact hbm.symm, fun h => absurd h n1, fun h => ?_, fun h => absurd h n1, fun h => absurd h n1, fun h => absurd h n1⟩
    exfalso
    apply ht
    rw [hbm, marks_fail, raw_none h _ (Nat.le_refl _)]
    rfl

end Go.Proofs.YtblhmeidbjigaaaGreatDoor
