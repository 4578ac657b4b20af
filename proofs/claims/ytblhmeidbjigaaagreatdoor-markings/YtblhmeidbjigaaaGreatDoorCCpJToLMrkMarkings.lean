/- The code's blocks: Block, Paired. -/
import Derived.Test.YtblhmeidbjigaaaGreatDoorRows
import Derived.WalkKit
import Derived.WalkSpells
import Derived.WalkLawsBesides
import Derived.Laws.BytesArg
import Derived.Deep.QuietTactic
import Derived.BigQuiet
import Derived.Deep.RegionHeld3
import Derived.Lib.ItoaNum
import Derived.Lib.ItoaLen
import Derived.OpenShut
import Derived.Maps.AppendAt
import Derived.Shelf.Strconv.Itoa3
import Derived.Shelf.Lay
import Derived.Ground.NamesProg
import Derived.Lib.SmallJoins
import Derived.Lib.Hide
import Derived.StillTailTactics
import Derived.Test.YtblhmeidbjigaaaGreatDoorCCpFToCCpIMarkings

set_option linter.unusedSimpArgs false
set_option linter.unusedVariables false
namespace Go.Proofs.YtblhmeidbjigaaaGreatDoor
open Go.RowKit

/-- A state as a value. -/
def stV (P n cap : Nat) (c : TD) (pc mv : Value) (big : Bool) (regs data : Int) : Value :=
  .agg #[.slice (some ⟨P, 0, none⟩) n cap, .int .i64 (ckind c), .int .i64 (cval c), pc, .int .i64 c.size, .string (str (showT c)), mv, .bool big, .int .i64 regs, .int .i64 data]

/-- A state that is handed back: what it leads to is new. -/
def StV (w0 w : World) (v : Value) (n : Nat) (f : Nat → TD) (c : TD) (ms : List (List UInt8)) (big : Bool) (regs data : Int) : Prop :=
  ∃ B Lo P cap ps pc mv, w0.heap.size ≤ B ∧ v = stV P n cap c pc mv big regs data ∧ StB B Lo w P n f ps c pc ms mv

theorem StB.set10 {B Lo : Nat} {w : World} {P n : Nat} {f : Nat → TD} {ps : Nat → Value} {c : TD} {pc : Value} {ms : List (List UInt8)} {mv : Value} (h : StB B Lo w P n f ps c pc ms mv) {g : Nat} (hg : g < B) (x0 x1 x2 x3 x4 x5 x6 x7 x8 x9 : Value) :
    StB B Lo (Go.Proofs.YtblhmeidbjigaaaGreatDoor.set10 w g x0 x1 x2 x3 x4 x5 x6 x7 x8 x9) P n f ps c pc ms mv := by
  have one : ∀ {V : World} (i : Nat) (u : Value), StB B Lo V P n f ps c pc ms mv → StB B Lo (V.setCell ⟨g, i, none⟩ u) P n f ps c pc ms mv := fun i u h => by
    have hL : g < Lo := by have := h.hP; have := h.hP'; omega
    exact ⟨h.pl.off (by have := h.hP; omega) i u, fun k hk => (h.parts k hk).under hL i u, h.pc.under hL i u, owns_unset h.mrk (h.mkne hL) u, h.hP, h.hP'⟩
  exact one _ _ (one _ _ (one _ _ (one _ _ (one _ _ (one _ _ (one _ _ (one _ _ (one _ _ (one _ _ h)))))))))

theorem plain_get {regs slots : Int} {n : Nat} (hn : (n : Int) = regs + slots) (i : Nat) (hi : i < n) : firstT (plainNames regs slots) (i : Int) = if (i : Int) < regs then .leaf 101 i else .leaf 102 i := by
  have hl : (plainNames regs slots).length = n := by unfold plainNames; simp; omega
  have hg : (plainNames regs slots).getD (i : Int).toNat 0 = if (i : Int) < regs then (i : Int) else -1 := by
    unfold plainNames
    have : i < (regs + slots).toNat := by omega
    simp [List.getD, this]
  unfold firstT
  rw [if_neg (by omega), hg]
  by_cases h : (i : Int) < regs
  · rw [if_pos h, if_neg (by omega), if_pos h]
  · rw [if_neg h, if_pos (by omega), if_neg h]

theorem plain_up (k i : Nat) : upT (fun i : Nat => if i < k then TD.leaf 101 (i : Int) else TD.leaf 102 (i : Int)) k (.leaf 101 (k : Int)) i = if i < k + 1 then TD.leaf 101 (i : Int) else TD.leaf 102 (i : Int) := by
  unfold upT
  by_cases q : i = k
  · subst q; simp
  · by_cases q2 : i < k
    · simp [q, q2, show i < k + 1 by omega]
    · simp [q, q2, show ¬ i < k + 1 by omega]

theorem first_end {names : List Int} {n : Nat} (h : names.length = n) : firstT names (n : Int) = .leaf 103 0 := by
  unfold firstT; rw [if_pos (by omega)]

theorem plain_length {regs slots : Int} {n : Nat} (hn : (n : Int) = regs + slots) : (plainNames regs slots).length = n := by unfold plainNames; simp; omega

theorem plain_small {regs slots : Int} (hr : regs ≤ 100) : ∀ x ∈ plainNames regs slots, x ≤ 1000 := by
  intro x hx
  unfold plainNames at hx
  obtain ⟨i, _, rfl⟩ := List.mem_map.1 hx
  split <;> omega

/-- What a place begins with, when the first k pairs are laid. -/
def pairT (ps : List PairD) (i : Nat) : TD := match ps.find? (fun x => decide (x.place = (i : Int))) with | some x => .leaf 101 x.reg | none => .leaf 102 i

set_option maxRecDepth 100000 in
set_option maxHeartbeats 4000000 in
theorem cBlock_cps (p : ProgD) (pv : Value) (b : Nat) (n : Nat) (hn : (n : Int) = p.regs + p.slots) (hg : progGood p = true) (hb : b < p.blocks.length) (w : World) (hrd : RdBlocks w pv p.blocks) (ht : TabW w) (Post : Ending → World → Prop)
    (hbig : bigT p.regs p.slots (plainNames p.regs p.slots) (bops p.blocks b) = true → ∀ v w' f c ms, StV w w' v n f c ms true p.regs p.data → Below w.heap.size w w' → Post (.returned v) w')
    (hok : bigT p.regs p.slots (plainNames p.regs p.slots) (bops p.blocks b) = false → ∀ v w', StV w w' v n (fun i : Nat => behindT p.regs p.slots (plainNames p.regs p.slots) (bops p.blocks b) (bops p.blocks b).length (i : Int)) (behindT p.regs p.slots (plainNames p.regs p.slots) (bops p.blocks b) (bops p.blocks b).length (n : Int)) (marksT p.regs p.slots p.data (plainNames p.regs p.slots) (bops p.blocks b) (bops p.blocks b).length) false p.regs p.data → Below w.heap.size w w' → Post (.returned v) w') :
    Calls Tryz.prog 67 #[progV p pv, .int .i64 b] w Post := by
  obtain ⟨hr, hargs, hdata, hs⟩ := good_shape hg
  obtain ⟨h12, hops⟩ := good_block hg hb
  obtain ⟨bo, bc, hpv, hll, hcc⟩ := id hrd
  obtain ⟨bn, hbn⟩ : ∃ bn, bn = p.blocks.length := ⟨_, rfl⟩
  rw [← hbn] at hpv
  subst hpv
  have HBN := Lib.hid hbn
  clear hbn
  obtain ⟨bb, boff, sv, rfl, y0, y1, y2, y3, y4, hro⟩ := hcc b hb
  clear hcc
  have hb0 : Below w.heap.size w ((w.alloc (.cells #[.int .i64 p.args, .int .i64 p.regs, .int .i64 p.data, .int .i64 p.slots, .slice (some ⟨bb, boff, none⟩) bn bc] 33)).alloc (.cells #[.slice none 0 0, .int .i64 0, .int .i64 0, .slice none 0 0, .int .i64 0, .string ⟨#[]⟩, .slice none 0 0, .bool false, .int .i64 0, .int .i64 0] 121)) := ((Below.refl _ _).alloc (Nat.le_refl _) _).alloc (by simp) _
  have ro : Row ((w.alloc (.cells #[.int .i64 p.args, .int .i64 p.regs, .int .i64 p.data, .int .i64 p.slots, .slice (some ⟨bb, boff, none⟩) bn bc] 33)).alloc (.cells #[.slice none 0 0, .int .i64 0, .int .i64 0, .slice none 0 0, .int .i64 0, .string ⟨#[]⟩, .slice none 0 0, .bool false, .int .i64 0, .int .i64 0] 121)) w.heap.size 33 [.int .i64 p.args, .int .i64 p.regs, .int .i64 p.data, .int .i64 p.slots, .slice (some ⟨bb, boff, none⟩) bn bc] := Row.alloc (heap_alloc_new w _) _
  have rg : Row ((w.alloc (.cells #[.int .i64 p.args, .int .i64 p.regs, .int .i64 p.data, .int .i64 p.slots, .slice (some ⟨bb, boff, none⟩) bn bc] 33)).alloc (.cells #[.slice none 0 0, .int .i64 0, .int .i64 0, .slice none 0 0, .int .i64 0, .string ⟨#[]⟩, .slice none 0 0, .bool false, .int .i64 0, .int .i64 0] 121)) (w.heap.size + 1) 121 [.slice none 0 0, .int .i64 0, .int .i64 0, .slice none 0 0, .int .i64 0, .string ⟨#[]⟩, .slice none 0 0, .bool false, .int .i64 0, .int .i64 0] := heap_alloc2_new w _ _
  have HZ : Hid (((w.alloc (.cells #[.int .i64 p.args, .int .i64 p.regs, .int .i64 p.data, .int .i64 p.slots, .slice (some ⟨bb, boff, none⟩) bn bc] 33)).alloc (.cells #[.slice none 0 0, .int .i64 0, .int .i64 0, .slice none 0 0, .int .i64 0, .string ⟨#[]⟩, .slice none 0 0, .bool false, .int .i64 0, .int .i64 0] 121)).heap.size = w.heap.size + 2) := by show _ = _; simp
  have q1 := fun P' => cBegin_cps p.args p.regs p.data p.slots (.slice (some ⟨bb, boff, none⟩) bn bc) ⟨_, _, _, rfl⟩ n hn (by omega) (by omega) ((w.alloc (.cells #[.int .i64 p.args, .int .i64 p.regs, .int .i64 p.data, .int .i64 p.slots, .slice (some ⟨bb, boff, none⟩) bn bc] 33)).alloc (.cells #[.slice none 0 0, .int .i64 0, .int .i64 0, .slice none 0 0, .int .i64 0, .string ⟨#[]⟩, .slice none 0 0, .bool false, .int .i64 0, .int .i64 0] 121)) (ht.keep hb0) P'
  have HRO := Lib.hid ro
  have HRG := Lib.hid rg
  have HB0 := Lib.hid hb0
  have HT := Lib.hid ht
  have HP1 := Lib.hid hbig
  have HP2 := Lib.hid hok
  have HR := Lib.hid hrd
  have HOPS := Lib.hid hro
  have HN := Lib.hid hn
  have Hn1 : n ≤ 200 := by omega
  have Hn2 : p.regs ≤ n := by omega
  unfold progV
  clear hbig hok ro rg hb0 ht hrd hn hro
  go_enter Tryz.func67, Tryz.ntmps67
  go_wp2_with fail
  refine q1 _ ?_
  intro P cap w1 hP hP' hpl b1 hz1
  have hzz := HZ.out
  have hX : Below w1.heap.size w1 (w1.alloc (.cells #[.slice (some ⟨P, 0, none⟩) n cap, .int .i64 0, .int .i64 0, .slice none 0 0, .int .i64 1, .string ⟨#[109]⟩, .slice none 0 0, .bool false, .int .i64 p.regs, .int .i64 p.data] 121)) := (Below.refl _ _).alloc (Nat.le_refl _) _
  have hzX : w1.heap.size + 1 ≤ (w1.alloc (.cells #[.slice (some ⟨P, 0, none⟩) n cap, .int .i64 0, .int .i64 0, .slice none 0 0, .int .i64 1, .string ⟨#[109]⟩, .slice none 0 0, .bool false, .int .i64 p.regs, .int .i64 p.data] 121)).heap.size := by simp
  have U1 : StU (w.heap.size + 2) (w1.heap.size + 1) (w1.alloc (.cells #[.slice (some ⟨P, 0, none⟩) n cap, .int .i64 0, .int .i64 0, .slice none 0 0, .int .i64 1, .string ⟨#[109]⟩, .slice none 0 0, .bool false, .int .i64 p.regs, .int .i64 p.data] 121)) w1.heap.size P cap n (fun i => .leaf 102 i) (fun _ => .slice none 0 0) (.leaf 103 0) (.slice none 0 0) [] (.slice none 0 0) false p.regs p.data := by
    refine ⟨?_, ⟨hpl.keep hX, fun i hi => ⟨rfl, hzX⟩, ⟨rfl, hzX⟩, World.ownsRow_nil _ _ _ _, by rw [hzz] at hP; exact hP, by omega⟩, by rw [hzz] at hz1; omega, by omega, by omega⟩
    have := heap_alloc_new w1 (.cells #[.slice (some ⟨P, 0, none⟩) n cap, .int .i64 0, .int .i64 0, .slice none 0 0, .int .i64 1, .string ⟨#[109]⟩, .slice none 0 0, .bool false, .int .i64 p.regs, .int .i64 p.data] 121)
    exact this
  have hBX : Below (w.heap.size + 2) ((w.alloc (.cells #[.int .i64 p.args, .int .i64 p.regs, .int .i64 p.data, .int .i64 p.slots, .slice (some ⟨bb, boff, none⟩) bn bc] 33)).alloc (.cells #[.slice none 0 0, .int .i64 0, .int .i64 0, .slice none 0 0, .int .i64 0, .string ⟨#[]⟩, .slice none 0 0, .bool false, .int .i64 0, .int .i64 0] 121)) (w1.alloc (.cells #[.slice (some ⟨P, 0, none⟩) n cap, .int .i64 0, .int .i64 0, .slice none 0 0, .int .i64 1, .string ⟨#[109]⟩, .slice none 0 0, .bool false, .int .i64 p.regs, .int .i64 p.data] 121)) := by
    rw [hzz] at b1
    exact b1.trans (hX.mono (by rw [hzz] at hz1; omega))
  have H0 : StAt (w.heap.size + 2) (w1.heap.size + 1) (w1.alloc (.cells #[.slice (some ⟨P, 0, none⟩) n cap, .int .i64 0, .int .i64 0, .slice none 0 0, .int .i64 1, .string ⟨#[109]⟩, .slice none 0 0, .bool false, .int .i64 p.regs, .int .i64 p.data] 121)) w1.heap.size P cap n (fun i : Nat => if i < 0 then .leaf 101 (i : Int) else .leaf 102 (i : Int)) (.leaf 103 0) [] false p.regs p.data := U1.at.congr (fun i _ => by simp [pairT]) rfl rfl rfl
  have HH0 := Lib.hid H0
  have HBX := Lib.hid hBX
  clear q1 hpl b1 hX hzX U1 H0 hBX hz1 hzz hP hP'
  go_wp2
  generalize w1.heap.size + 1 = Lo at *
  generalize w1.heap.size = M at *
  go_loopw [6] (fun i wr => ∃ (k : Nat), k ≤ p.regs.toNat ∧ i = .int .i64 k ∧ StAt (w.heap.size + 2) Lo wr M P cap n (fun i : Nat => if i < k then .leaf 101 (i : Int) else .leaf 102 (i : Int)) (.leaf 103 0) [] false p.regs p.data ∧ Below (w.heap.size + 2) ((w.alloc (.cells #[.int .i64 p.args, .int .i64 p.regs, .int .i64 p.data, .int .i64 p.slots, .slice (some ⟨bb, boff, none⟩) bn bc] 33)).alloc (.cells #[.slice none 0 0, .int .i64 0, .int .i64 0, .slice none 0 0, .int .i64 0, .string ⟨#[]⟩, .slice none 0 0, .bool false, .int .i64 0, .int .i64 0] 121)) wr)
    (fun i _ => p.regs.toNat - (intOf i).toNat)
  case atStart => exact ⟨0, Nat.zero_le _, rfl, HH0.out, HBX.out⟩
  case round =>
    clear HH0 HBX
    obtain ⟨k, hk, rfl, hst, hB⟩ := hrel
    have hzz := HZ.out
    have ro := HRO.out.below hB (by omega)
    have x1 := ro.cell (i := 1) rfl
    have hBw : Below w.heap.size w wr := HB0.out.trans (hB.mono (by omega))
    by_cases hlt : k < p.regs.toNat
    · obtain ⟨ps, pc, mv, U⟩ := hst
      have d0 : Below wr.heap.size wr wr.drew := (Below.refl _ _).drew
      have nM : M ≠ P := Ne.symm U.ne
      have m0 := fun V (h : Keep (fun g => g = P) wr V) => h.cell nM (U.row.cell (i := 0) rfl)
      have k0 : Keep (fun g => g = P) wr wr.drew := (Keep.refl _ _).below d0 (Nat.le_refl _)
      have ha : k < n := by omega
      have hw : W64 (k : Int) := by constructor <;> omega
      have hai : (0 : Int) ≤ (k : Int) := by omega
      have haj : (k : Int) < (n : Int) := by omega
      have q2 := cOfRegister_any (k : Int) hw wr.drew (HT.out.keep (hBw.trans (d0.mono hBw.size)))
      unfold termV at q2
      have HU := Lib.hid U
      have HBr := Lib.hid hB
      have hreg : (k : Int) < p.regs ∨ True := .inr trivial
      clear U ro hB hBw hreg
      have hkr : (k : Int) < p.regs := by omega
      go_wp2
      go_region_held3 (fun V => Keep (fun g => g = P) wr V) (first | with_reducible exact k0 | with_reducible exact k2 | with_reducible exact k3) (first | (go_at_call 105; refine q2.mono ?_; rintro er w2 ⟨rfl, b2⟩; have b3 : Below wr.heap.size wr w2 := d0.trans (b2.mono d0.size); have k2 : Keep (fun g => g = P) wr w2 := (Keep.refl _ _).below b3 (Nat.le_refl _); have U2 := HU.out.next b3; have p2 : PartsAt Lo w2 (.leaf 101 (k : Int)) (.slice none 0 0) := ⟨rfl, U2.b.pc.lo⟩; have U5 := U2.place ha p2; have HM5 := ((Mv.of b3 HU.out.le : Mv (w.heap.size + 2) Lo wr w2)).putT U2.b.hP U2.b.hP' (k * 5) (.leaf 101 (k : Int)) (.slice none 0 0); have HU5 := Lib.hid (And.intro U5.at HM5.low); unfold putT put5 at HU5; have k3 := ((((k2.setCell (p := ⟨P, k * 5, none⟩) (.inl rfl) (.int .i64 (ckind (.leaf 101 (k : Int))))).setCell (p := ⟨P, k * 5 + 1, none⟩) (.inl rfl) (.int .i64 (cval (.leaf 101 (k : Int))))).setCell (p := ⟨P, k * 5 + 2, none⟩) (.inl rfl) (.slice none 0 0)).setCell (p := ⟨P, k * 5 + 3, none⟩) (.inl rfl) (.int .i64 (TD.size (.leaf 101 (k : Int))))).setCell (p := ⟨P, k * 5 + 4, none⟩) (.inl rfl) (.string (str (showT (.leaf 101 (k : Int))))); have h0 := U2.b.pl.frozen (k * 5); have h1 := U2.b.pl.frozen (k * 5 + 1); have h2 := U2.b.pl.frozen (k * 5 + 2); have h3 := U2.b.pl.frozen (k * 5 + 3); have h4 := U2.b.pl.frozen (k * 5 + 4); have s0 := U2.b.pl.cell (j := 0) ha rfl; have s1 := U2.b.pl.cell (j := 1) ha rfl; have s2 := U2.b.pl.cell (j := 2) ha rfl; have s3 := U2.b.pl.cell (j := 3) ha rfl; have s4 := U2.b.pl.cell (j := 4) ha rfl; rw [Nat.add_zero] at s0; obtain ⟨qo', qn', qc', hpq⟩ := (U2.b.parts k ha).slice; rw [hpq] at s2; clear hpq U5 HM5))
      go_wp2
      have h9 := HU5.out.1.congr (g := (fun i : Nat => if i < (k + 1) then .leaf 101 (i : Int) else .leaf 102 (i : Int))) (fun i _ => plain_up k i) rfl rfl rfl
      have b9 := HBr.out.trans HU5.out.2
      clear HU5 HU HBr U2 k0 k2 k3 b2 b3 q2
      go_roundw
      case rel => exact ⟨k + 1, by omega, by go_num, h9, b9⟩
      case measure => simp [intOf]; omega
    · obtain rfl : k = p.regs.toNat := by omega
      have hend : ¬ (((p.regs.toNat : Nat) : Int) < p.regs) := by omega
      have x4 := ro.cell (i := 4) rfl
      have e0 := cell_keep hBw y0
      have hbi : (0 : Int) ≤ (b : Int) := by omega
      have hbj : (b : Int) < (bn : Int) := by have := HBN.out; omega
      have hst2 : StAt (w.heap.size + 2) Lo wr M P cap n (fun i : Nat => firstT (plainNames p.regs p.slots) (i : Int)) (firstT (plainNames p.regs p.slots) (n : Int)) [] false p.regs p.data := hst.congr (fun i hi => by rw [plain_get HN.out i hi]; by_cases q : (i : Int) < p.regs; (rw [if_pos (show i < p.regs.toNat by omega), if_pos q]); (rw [if_neg (show ¬ i < p.regs.toNat by omega), if_neg q])) (by rw [first_end (plain_length HN.out)]) rfl rfl
      have q3 := fun P' => cDoAll_cps hst2 HN.out (by omega) (by omega) (plain_small (by omega)) (bops p.blocks b) h12 hops sv (fun V hv => HOPS.out.keep (hBw.trans (hv.mono (by omega)))) (fun V hv => HT.out.keep (hBw.trans (hv.mono (by omega)))) P'
      obtain ⟨so, sn, sc, rfl⟩ : ∃ so sn sc, sv = .slice so sn sc := let ⟨so, sc, e, _⟩ := HOPS.out; ⟨so, _, sc, e⟩
      clear hst hst2 ro hBw
      go_wp2_with fail
      refine q3 _ ?_ ?_
      · intro hbg w3 f3 c3' ms3 h3 m3
        obtain ⟨ps3, pc3, mv3, U3⟩ := h3
        obtain ⟨c3, hc3⟩ : ∃ c3, c3 = c3' := ⟨_, rfl⟩
        rw [← hc3] at U3
        obtain ⟨co, cn, cc, rfl⟩ := U3.b.pc.slice
        obtain ⟨mo, mc, hmv⟩ := owns_slice U3.b.mrk
        subst hmv
        obtain ⟨mn, hmn⟩ : ∃ mn, mn = (ms3).length := ⟨_, rfl⟩
        rw [← hmn] at U3
        have b3 : Below (w.heap.size + 2) ((w.alloc (.cells #[.int .i64 p.args, .int .i64 p.regs, .int .i64 p.data, .int .i64 p.slots, .slice (some ⟨bb, boff, none⟩) bn bc] 33)).alloc (.cells #[.slice none 0 0, .int .i64 0, .int .i64 0, .slice none 0 0, .int .i64 0, .string ⟨#[]⟩, .slice none 0 0, .bool false, .int .i64 0, .int .i64 0] 121)) w3 := hB.trans m3.low
        have rg3 := HRG.out.below b3 (by omega)
        have hS := U3.b.set10 (g := w.heap.size + 1) (by omega) (.slice (some ⟨P, 0, none⟩) n cap) (.int .i64 (ckind c3)) (.int .i64 (cval c3)) (.slice co cn cc) (.int .i64 c3.size) (.string (str (showT c3))) (.slice mo mn mc) (.bool true) (.int .i64 p.regs) (.int .i64 p.data)
        have hb3 : Below w.heap.size w (set10 w3 (w.heap.size + 1) (.slice (some ⟨P, 0, none⟩) n cap) (.int .i64 (ckind c3)) (.int .i64 (cval c3)) (.slice co cn cc) (.int .i64 c3.size) (.string (str (showT c3))) (.slice mo mn mc) (.bool true) (.int .i64 p.regs) (.int .i64 p.data)) := by
          have k3 : Keep (fun g => g = w.heap.size + 1) w3 (set10 w3 (w.heap.size + 1) (.slice (some ⟨P, 0, none⟩) n cap) (.int .i64 (ckind c3)) (.int .i64 (cval c3)) (.slice co cn cc) (.int .i64 c3.size) (.string (str (showT c3))) (.slice mo mn mc) (.bool true) (.int .i64 p.regs) (.int .i64 p.data)) := (Keep.refl (fun g => g = w.heap.size + 1) w3).set10 (g := w.heap.size + 1) rfl _ _ _ _ _ _ _ _ _ _
          exact (HB0.out.trans (b3.mono (by omega))).trans (k3.toBelow (by have := b3.size; have := HZ.out; omega) (fun g e => by omega))
        have hv : StV w (set10 w3 (w.heap.size + 1) (.slice (some ⟨P, 0, none⟩) n cap) (.int .i64 (ckind c3)) (.int .i64 (cval c3)) (.slice co cn cc) (.int .i64 c3.size) (.string (str (showT c3))) (.slice mo mn mc) (.bool true) (.int .i64 p.regs) (.int .i64 p.data)) (stV P n cap c3 (.slice co cn cc) (.slice mo mn mc) true p.regs p.data) n f3 c3 (ms3) true p.regs p.data := ⟨w.heap.size + 2, Lo, P, cap, ps3, .slice co cn cc, .slice mo mn mc, by omega, rfl, hS⟩
        rw [hc3] at hv
        have HF := Lib.hid (HP1.out hbg _ _ f3 c3' ms3 hv (by rw [hc3] at hb3; exact hb3))
        rw [← hc3] at HF
        clear hv
        unfold stV set10 at HF
        have mm0 := U3.row.cell (i := 0) rfl
        have z0 := rg3.cell (i := 0) rfl
        have f0 := rg3.frozen 0
        have mm1 := U3.row.cell (i := 1) rfl
        have z1 := rg3.cell (i := 1) rfl
        have f1 := rg3.frozen 1
        have mm2 := U3.row.cell (i := 2) rfl
        have z2 := rg3.cell (i := 2) rfl
        have f2 := rg3.frozen 2
        have mm3 := U3.row.cell (i := 3) rfl
        have z3 := rg3.cell (i := 3) rfl
        have f3 := rg3.frozen 3
        have mm4 := U3.row.cell (i := 4) rfl
        have z4 := rg3.cell (i := 4) rfl
        have f4 := rg3.frozen 4
        have mm5 := U3.row.cell (i := 5) rfl
        have z5 := rg3.cell (i := 5) rfl
        have f5 := rg3.frozen 5
        have mm6 := U3.row.cell (i := 6) rfl
        have z6 := rg3.cell (i := 6) rfl
        have f6 := rg3.frozen 6
        have mm7 := U3.row.cell (i := 7) rfl
        have z7 := rg3.cell (i := 7) rfl
        have f7 := rg3.frozen 7
        have mm8 := U3.row.cell (i := 8) rfl
        have z8 := rg3.cell (i := 8) rfl
        have f8 := rg3.frozen 8
        have mm9 := U3.row.cell (i := 9) rfl
        have z9 := rg3.cell (i := 9) rfl
        have f9 := rg3.frozen 9
        clear hS hb3 U3 rg3 b3 m3 hc3 hmn HRO HRG HB0 HP1 HP2
        go_wp2
        (try simp only [Exit.inBlock, Exit.then])
        refine bodyPost_ret (v := .agg #[.slice (some ⟨P, 0, none⟩) n cap, .int .i64 (ckind c3), .int .i64 (cval c3), .slice co cn cc, .int .i64 c3.size, .string (str (showT c3)), .slice mo mn mc, .bool true, .int .i64 p.regs, .int .i64 p.data]) ?_ rfl ?_
        · simp [results, Tryz.results67, go_sem, z0, z1, z2, z3, z4, z5, z6, z7, z8, z9]
        · exact HF.out
      · intro hbg w3 h3 m3
        obtain ⟨ps3, pc3, mv3, U3⟩ := h3
        obtain ⟨c3, hc3⟩ : ∃ c3, c3 = behindT p.regs p.slots (plainNames p.regs p.slots) (bops p.blocks b) (bops p.blocks b).length (n : Int) := ⟨_, rfl⟩
        rw [← hc3] at U3
        obtain ⟨co, cn, cc, rfl⟩ := U3.b.pc.slice
        obtain ⟨mo, mc, hmv⟩ := owns_slice U3.b.mrk
        subst hmv
        obtain ⟨mn, hmn⟩ : ∃ mn, mn = (marksT p.regs p.slots p.data (plainNames p.regs p.slots) (bops p.blocks b) (bops p.blocks b).length).length := ⟨_, rfl⟩
        rw [← hmn] at U3
        have b3 : Below (w.heap.size + 2) ((w.alloc (.cells #[.int .i64 p.args, .int .i64 p.regs, .int .i64 p.data, .int .i64 p.slots, .slice (some ⟨bb, boff, none⟩) bn bc] 33)).alloc (.cells #[.slice none 0 0, .int .i64 0, .int .i64 0, .slice none 0 0, .int .i64 0, .string ⟨#[]⟩, .slice none 0 0, .bool false, .int .i64 0, .int .i64 0] 121)) w3 := hB.trans m3.low
        have rg3 := HRG.out.below b3 (by omega)
        have hS := U3.b.set10 (g := w.heap.size + 1) (by omega) (.slice (some ⟨P, 0, none⟩) n cap) (.int .i64 (ckind c3)) (.int .i64 (cval c3)) (.slice co cn cc) (.int .i64 c3.size) (.string (str (showT c3))) (.slice mo mn mc) (.bool false) (.int .i64 p.regs) (.int .i64 p.data)
        have hb3 : Below w.heap.size w (set10 w3 (w.heap.size + 1) (.slice (some ⟨P, 0, none⟩) n cap) (.int .i64 (ckind c3)) (.int .i64 (cval c3)) (.slice co cn cc) (.int .i64 c3.size) (.string (str (showT c3))) (.slice mo mn mc) (.bool false) (.int .i64 p.regs) (.int .i64 p.data)) := by
          have k3 : Keep (fun g => g = w.heap.size + 1) w3 (set10 w3 (w.heap.size + 1) (.slice (some ⟨P, 0, none⟩) n cap) (.int .i64 (ckind c3)) (.int .i64 (cval c3)) (.slice co cn cc) (.int .i64 c3.size) (.string (str (showT c3))) (.slice mo mn mc) (.bool false) (.int .i64 p.regs) (.int .i64 p.data)) := (Keep.refl (fun g => g = w.heap.size + 1) w3).set10 (g := w.heap.size + 1) rfl _ _ _ _ _ _ _ _ _ _
          exact (HB0.out.trans (b3.mono (by omega))).trans (k3.toBelow (by have := b3.size; have := HZ.out; omega) (fun g e => by omega))
        have hv : StV w (set10 w3 (w.heap.size + 1) (.slice (some ⟨P, 0, none⟩) n cap) (.int .i64 (ckind c3)) (.int .i64 (cval c3)) (.slice co cn cc) (.int .i64 c3.size) (.string (str (showT c3))) (.slice mo mn mc) (.bool false) (.int .i64 p.regs) (.int .i64 p.data)) (stV P n cap c3 (.slice co cn cc) (.slice mo mn mc) false p.regs p.data) n (fun i : Nat => behindT p.regs p.slots (plainNames p.regs p.slots) (bops p.blocks b) (bops p.blocks b).length (i : Int)) c3 (marksT p.regs p.slots p.data (plainNames p.regs p.slots) (bops p.blocks b) (bops p.blocks b).length) false p.regs p.data := ⟨w.heap.size + 2, Lo, P, cap, ps3, .slice co cn cc, .slice mo mn mc, by omega, rfl, hS⟩
        rw [hc3] at hv
        have HF := Lib.hid (HP2.out hbg _ _ hv (by rw [hc3] at hb3; exact hb3))
        rw [← hc3] at HF
        clear hv
        unfold stV set10 at HF
        have mm0 := U3.row.cell (i := 0) rfl
        have z0 := rg3.cell (i := 0) rfl
        have f0 := rg3.frozen 0
        have mm1 := U3.row.cell (i := 1) rfl
        have z1 := rg3.cell (i := 1) rfl
        have f1 := rg3.frozen 1
        have mm2 := U3.row.cell (i := 2) rfl
        have z2 := rg3.cell (i := 2) rfl
        have f2 := rg3.frozen 2
        have mm3 := U3.row.cell (i := 3) rfl
        have z3 := rg3.cell (i := 3) rfl
        have f3 := rg3.frozen 3
        have mm4 := U3.row.cell (i := 4) rfl
        have z4 := rg3.cell (i := 4) rfl
        have f4 := rg3.frozen 4
        have mm5 := U3.row.cell (i := 5) rfl
        have z5 := rg3.cell (i := 5) rfl
        have f5 := rg3.frozen 5
        have mm6 := U3.row.cell (i := 6) rfl
        have z6 := rg3.cell (i := 6) rfl
        have f6 := rg3.frozen 6
        have mm7 := U3.row.cell (i := 7) rfl
        have z7 := rg3.cell (i := 7) rfl
        have f7 := rg3.frozen 7
        have mm8 := U3.row.cell (i := 8) rfl
        have z8 := rg3.cell (i := 8) rfl
        have f8 := rg3.frozen 8
        have mm9 := U3.row.cell (i := 9) rfl
        have z9 := rg3.cell (i := 9) rfl
        have f9 := rg3.frozen 9
        clear hS hb3 U3 rg3 b3 m3 hc3 hmn HRO HRG HB0 HP1 HP2
        go_wp2
        (try simp only [Exit.inBlock, Exit.then])
        refine bodyPost_ret (v := .agg #[.slice (some ⟨P, 0, none⟩) n cap, .int .i64 (ckind c3), .int .i64 (cval c3), .slice co cn cc, .int .i64 c3.size, .string (str (showT c3)), .slice mo mn mc, .bool false, .int .i64 p.regs, .int .i64 p.data]) ?_ rfl ?_
        · simp [results, Tryz.results67, go_sem, z0, z1, z2, z3, z4, z5, z6, z7, z8, z9]
        · exact HF.out


end Go.Proofs.YtblhmeidbjigaaaGreatDoor

/- Term in package compute, and in package twin. -/
set_option linter.unusedSimpArgs false
set_option linter.unusedVariables false
namespace Go.Proofs.YtblhmeidbjigaaaGreatDoor
open Go.RowKit

set_option maxRecDepth 100000 in
set_option maxHeartbeats 1000000 in
theorem cHas_any (a r d s : Int) (bo : Option Addr) (bn bc : Nat) (block : Int) (w : World) :
    Calls Tryz.prog 66 #[.agg #[.int .i64 a, .int .i64 r, .int .i64 d, .int .i64 s, .slice bo bn bc], .int .i64 block] w fun e w' => e = .returned (.bool (decide (0 ≤ block) && decide (block < bn))) ∧ Below w.heap.size w w' := by
  have b0 : Below w.heap.size w (w.alloc (.cells #[.int .i64 a, .int .i64 r, .int .i64 d, .int .i64 s, .slice bo bn bc] 33)) := (Below.refl _ _).alloc (Nat.le_refl _) _
  have HB := Lib.hid b0
  clear b0
  by_cases h1 : 0 ≤ block
  · by_cases h2 : block < bn
    · have hd := Lib.hid (show (decide (0 ≤ block) && decide (block < bn)) = true by simp [h1, h2])
      go_enter Tryz.func66, Tryz.ntmps66
      go_wp2
      go_ret
      exact ⟨by first | (rw [hd.out]; rfl) | rfl | (simp [h1]; done) | (simp [h1]; omega) | (simp; omega), HB.out⟩
    · have hd := Lib.hid (show (decide (0 ≤ block) && decide (block < bn)) = false by simp [h2])
      go_enter Tryz.func66, Tryz.ntmps66
      go_wp2
      go_ret
      exact ⟨by first | (rw [hd.out]; rfl) | rfl | (simp [h1]; done) | (simp [h1]; omega) | (simp; omega), HB.out⟩
  · have hd := Lib.hid (show (decide (0 ≤ block) && decide (block < bn)) = false by simp [h1])
    go_enter Tryz.func66, Tryz.ntmps66
    go_wp2
    go_ret
    exact ⟨by first | (rw [hd.out]; rfl) | rfl | (simp [h1]; done) | (simp [h1]; omega) | (simp; omega), HB.out⟩

end Go.Proofs.YtblhmeidbjigaaaGreatDoor

/- Marks in package compute, and in package twin. -/
set_option linter.unusedSimpArgs false
set_option linter.unusedVariables false
namespace Go.Proofs.YtblhmeidbjigaaaGreatDoor
open Go.RowKit

set_option maxRecDepth 100000 in
set_option maxHeartbeats 4000000 in
theorem cMarksOf_cps (s : ByteArray) (block : Int) (w : World) (hs : s.size ≤ maxLen) (htab : TabW w) (Post : Ending → World → Prop)
    (hp : ∀ l er v w', MarksAns s block l er → w'.ownsRow w.heap.size 9 1 v l.length (texts l) → Below w.heap.size w w' → Post (.returned (.tuple #[v, .int .i64 er])) w') :
    Calls Tryz.prog 54 #[.string s, .int .i64 block] w Post := by
  have hc := cDecode_any s w hs
  have HP := Lib.hid hp
  clear hp
  go_enter Tryz.func54, Tryz.ntmps54
  go_wp2_with fail
  refine hc.mono ?_
  clear hc
  rintro e w1 ⟨hor, hb1⟩
  rcases hor with ⟨p, v, bv, rfl, ho, hd, hg, ht⟩ | ⟨hn, rfl⟩
  · obtain ⟨bo, bc, rfl⟩ := owns_slice ho.row
    have hlen : bv.length = p.blocks.length := by rw [← hd, bdat_length]
    have hrd0 := ho.rd
    rw [hd] at hrd0
    rw [hlen] at hrd0 ⊢
    obtain ⟨hr, hargs, hdata, hsl⟩ := good_shape hg
    have hb2 : Below w.heap.size w (w1.alloc (.cells #[.int .i64 p.args, .int .i64 p.regs, .int .i64 p.data, .int .i64 p.slots, .slice bo p.blocks.length bc] 33)) := hb1.alloc hb1.size _
    have hb12 : Below w1.heap.size w1 (w1.alloc (.cells #[.int .i64 p.args, .int .i64 p.regs, .int .i64 p.data, .int .i64 p.slots, .slice bo p.blocks.length bc] 33)) := (Below.refl _ _).alloc (Nat.le_refl _) _
    have hrd2 := hrd0.keep hb12
    have r : Row (w1.alloc (.cells #[.int .i64 p.args, .int .i64 p.regs, .int .i64 p.data, .int .i64 p.slots, .slice bo p.blocks.length bc] 33)) w1.heap.size 33 [.int .i64 p.args, .int .i64 p.regs, .int .i64 p.data, .int .i64 p.slots, .slice bo p.blocks.length bc] := heap_alloc_new w1 _
    have q1 := cHas_any p.args p.regs p.data p.slots bo p.blocks.length bc block (w1.alloc (.cells #[.int .i64 p.args, .int .i64 p.regs, .int .i64 p.data, .int .i64 p.slots, .slice bo p.blocks.length bc] 33))
    unfold progV
    clear ho hd hrd0 hb1 hb12 hlen
    go_wp2_with fail
    refine q1.mono ?_
    rintro e w2 ⟨rfl, b2⟩
    have r2 := r.keep b2
    have hrd3 := hrd2.keep b2
    have hb3 : Below w.heap.size w w2 := hb2.trans (b2.mono hb2.size)
    have p0 := r2.cell (i := 0) rfl
    have p1 := r2.cell (i := 1) rfl
    have p2 := r2.cell (i := 2) rfl
    have p3 := r2.cell (i := 3) rfl
    have p4 := r2.cell (i := 4) rfl
    clear q1 b2 r hrd2 hb2
    by_cases hall : 0 ≤ block ∧ block < p.blocks.length
    · obtain ⟨ha1, ha2⟩ := id hall
      obtain ⟨b, rfl⟩ := Int.eq_ofNat_of_zero_le ha1
      obtain ⟨n, hn⟩ := Int.eq_ofNat_of_zero_le (show 0 ≤ p.regs + p.slots by omega)
      have hbn : b < p.blocks.length := by omega
      have hdec : (decide ((0 : Int) ≤ (b : Int)) && decide ((b : Int) < (p.blocks.length : Int))) = true := by simp; omega
      rw [hdec]
      have HALL := Lib.hid hall
      have qb := fun P' => cBlock_cps p (.slice bo p.blocks.length bc) b n hn.symm hg hbn w2 hrd3 (htab.keep hb3) P'
      unfold progV at qb
      clear hall hdec hn
      go_wp2_with fail
      refine qb _ ?_ ?_
      · intro hbig v w3 f c ms hv b3
        obtain ⟨B, Lo, P, cap, ps, pc, mv, hB, rfl, hS⟩ := hv
        have HX : Hid (MarksAns s b [] 5) := .inr ⟨p, hg, ht, .inr ⟨HALL.out, .inl ⟨rfl, rfl, by simpa using hbig⟩⟩⟩
        obtain ⟨co, cn, cc, rfl⟩ := hS.pc.slice
        obtain ⟨mo, mc, rfl⟩ := owns_slice hS.mrk
        have hb4 : Below w.heap.size w (w3.alloc (.cells #[.slice (some ⟨P, 0, none⟩) n cap, .int .i64 (ckind c), .int .i64 (cval c), .slice co cn cc, .int .i64 c.size, .string (str (showT c)), .slice mo ms.length mc, .bool true, .int .i64 p.regs, .int .i64 p.data] 121)) := (hb3.trans (b3.mono hb3.size)).alloc (Nat.le_trans hb3.size b3.size) _
        have HF := Lib.hid (HP.out [] 5 (.slice none 0 0) _ HX.out (World.ownsRow_nil _ _ _ _) hb4)
        unfold stV
        clear hbig hS hb3 b3 qb r2 hrd3 HP hb4
        go_wp2
        exact HF.out
      · intro hbig v w3 hv b3
        obtain ⟨B, Lo, P, cap, ps, pc, mv, hB, rfl, hS⟩ := hv
        obtain ⟨co, cn, cc, rfl⟩ := hS.pc.slice
        obtain ⟨mo, mc, hmv⟩ := owns_slice hS.mrk
        subst hmv
        obtain ⟨L, hL⟩ : ∃ L, L = marksT p.regs p.slots p.data (plainNames p.regs p.slots) (bops p.blocks b) (bops p.blocks b).length := ⟨_, rfl⟩
        have HX : Hid (MarksAns s b L 0) := .inr ⟨p, hg, ht, .inr ⟨HALL.out, .inr ⟨rfl, by simpa using hbig, by rw [hL]; simp⟩⟩⟩
        obtain ⟨c, hc⟩ : ∃ c, behindT p.regs p.slots (plainNames p.regs p.slots) (bops p.blocks b) (bops p.blocks b).length (n : Int) = c := ⟨_, rfl⟩
        rw [← hL] at hS ⊢
        unfold stV
        rw [hc]
        have b4 : Below w3.heap.size w3 (w3.alloc (.cells #[.slice (some ⟨P, 0, none⟩) n cap, .int .i64 (ckind c), .int .i64 (cval c), .slice co cn cc, .int .i64 c.size, .string (str (showT c)), .slice mo L.length mc, .bool false, .int .i64 p.regs, .int .i64 p.data] 121)) := (Below.refl _ _).alloc (Nat.le_refl _) _
        have hb4 : Below w.heap.size w (w3.alloc (.cells #[.slice (some ⟨P, 0, none⟩) n cap, .int .i64 (ckind c), .int .i64 (cval c), .slice co cn cc, .int .i64 c.size, .string (str (showT c)), .slice mo L.length mc, .bool false, .int .i64 p.regs, .int .i64 p.data] 121)) := (hb3.trans (b3.mono hb3.size)).alloc (Nat.le_trans hb3.size b3.size) _
        have hS4 := hS.next b4
        have hown := owns_base hS4.mrk (show w.heap.size ≤ Lo by have := hS4.hP; have := hS4.hP'; have := hb3.size; omega)
        have HF := Lib.hid (HP.out L 0 _ _ HX.out hown hb4)
        clear hc hL hbig hS hS4 b4 hb4 qb r2 hrd3 HP hown hb3 b3
        generalize L.length = ln at *
        go_wp2
        exact HF.out
    · have HX : Hid (MarksAns s block [] 4) := .inr ⟨p, hg, ht, .inl ⟨rfl, rfl, hall⟩⟩
      have HF := Lib.hid (HP.out [] 4 (.slice none 0 0) _ HX.out (World.ownsRow_nil _ _ _ _) hb3)
      clear hb3 hrd3 r2 HP
      have hdec : (decide (0 ≤ block) && decide (block < (p.blocks.length : Int))) = false := by
        rw [Bool.and_eq_false_iff]
        by_cases q : 0 ≤ block
        · exact .inr (by simp; omega)
        · exact .inl (by simp; omega)
      rw [hdec]
      clear hall hdec
      go_wp2
      exact HF.out
  · have HX : Hid (MarksAns s block [] 1) := .inl ⟨rfl, rfl, hn⟩
    have HF := Lib.hid (HP.out [] 1 (.slice none 0 0) _ HX.out (World.ownsRow_nil _ _ _ _) (hb1.alloc hb1.size (.cells #[.int .i64 0, .int .i64 0, .int .i64 0, .int .i64 0, .slice none 0 0] 33)))
    clear hb1 hn HP
    go_wp2
    exact HF.out

set_option maxRecDepth 100000 in
set_option maxHeartbeats 1000000 in
theorem tMarks_cps (s : ByteArray) (block : Int) (w : World) (hs : s.size ≤ maxLen) (htab : TabW w) (Post : Ending → World → Prop)
    (hp : ∀ l er v w', MarksAns s block l er → w'.ownsRow w.heap.size 9 1 v l.length (texts l) → Below w.heap.size w w' → Post (.returned (.tuple #[v, .int .i64 er])) w') :
    Calls Tryz.prog 23 #[.string s, .int .i64 block] w Post := by
  have hc := fun P' => cMarksOf_cps s block w hs htab P'
  go_enter Tryz.func23, Tryz.ntmps23
  go_wp2_with fail
  refine hc _ ?_
  intro l er v w1 ha ho hb
  obtain ⟨lo, lc, rfl⟩ := owns_slice ho
  have HF := Lib.hid (hp l er _ w1 ha ho hb)
  clear hc ha ho hb hp
  generalize l.length = ln at *
  go_wp2
  exact HF.out

end Go.Proofs.YtblhmeidbjigaaaGreatDoor

/- Two lists of texts held side by side; marked. -/
set_option linter.unusedSimpArgs false
set_option linter.unusedVariables false
namespace Go.Proofs.YtblhmeidbjigaaaGreatDoor
open Go.RowKit

set_option maxRecDepth 100000 in
set_option maxHeartbeats 1000000 in
theorem lTexts_any (u v : Value) (l : List (List UInt8)) (w : World) (hu : RdTexts w u l) (hv : RdTexts w v l) :
    Calls Tryz.prog 40 #[u, v] w fun e w' => e = .returned (.bool true) ∧ Below w.heap.size w w' := by
  obtain ⟨uo, uc, rfl, hul, hucs⟩ := hu
  obtain ⟨vo, vc, rfl, hvl, hvcs⟩ := hv
  go_enter Tryz.func40, Tryz.ntmps40
  go_wp2
  go_loopw [5] (fun i wr => ∃ (k : Nat), k ≤ l.length ∧ i = .int .i64 k ∧ Below w.heap.size w wr)
    (fun i _ => l.length - (intOf i).toNat)
  case atStart => exact ⟨0, Nat.zero_le _, rfl, Below.refl _ _⟩
  case round =>
    obtain ⟨k, hk, rfl, hbel⟩ := hrel
    by_cases hlt : k < l.length
    · obtain ⟨b, off, rfl, h1⟩ := hucs k hlt
      obtain ⟨b', off', rfl, h2⟩ := hvcs k hlt
      have g1 := cell_keep hbel h1
      have g2 := cell_keep hbel h2
      have hki : (k : Int) < (l.length : Int) := by omega
      have hbd : ∀ d, Below w.heap.size w (wr.drewN d) := fun d => below_drewN hbel d
      have he : ((str (l.getD k [])).toList == (str (l.getD k [])).toList) = true := by simp
      clear h1 h2 hucs hvcs
      generalize str (l.getD k []) = x at *
      go_wp2
      go_quiet (fail)
      go_wp2
      go_roundw
      case rel => exact ⟨k + 1, by omega, by go_num, hbd _⟩
      case measure => simp [intOf]; omega
    · go_wp2
      go_ret
      exact ⟨rfl, hbel⟩

theorem texts_set {l : List (List UInt8)} {k : Nat} (hk : k < l.length) (x : List UInt8) : (texts l).set k (.string (str x)) = texts (l.set k x) := by
  unfold texts
  rw [List.map_set]

/-- The first k texts are x. -/
def overT (l : List (List UInt8)) (x : List UInt8) (k : Nat) : List (List UInt8) := List.replicate k x ++ l.drop k

theorem overT_length (l : List (List UInt8)) (x : List UInt8) {k : Nat} (h : k ≤ l.length) : (overT l x k).length = l.length := by
  unfold overT; simp; omega

theorem overT_step {l : List (List UInt8)} (x : List UInt8) {k : Nat} (h : k < l.length) : (overT l x k).set k x = overT l x (k + 1) := by
  unfold overT
  rw [List.set_append_right _ _ (by simp)]
  simp only [List.length_replicate, Nat.sub_self]
  rw [List.drop_eq_getElem_cons h, List.set_cons_zero, List.replicate_succ', List.append_assoc]
  rfl

theorem texts_own {w : World} {B n : Nat} {ao : Option Addr} {cap : Nat} {l : List (List UInt8)} (h : w.ownsRow B 9 1 (.slice ao n cap) n (texts l)) {i : Nat} (hi : i < l.length) :
    ∃ g, ao = some ⟨g, 0, none⟩ ∧ B ≤ g ∧ g < w.heap.size ∧ (∃ u, w.cell? ⟨g, i, none⟩ = some (.string u)) ∧ ∀ o, w.frozen? ⟨g, o, none⟩ = false := by
  obtain ⟨b, rfl, hB, hb, hc⟩ := owns_cell h rfl (i := i) (by rw [texts_length]; exact hi)
  refine ⟨b, rfl, hB, (h.lt b hb).2, ⟨str l[i], ?_⟩, fun o => owns_frozen h hb o⟩
  rw [hc]
  simp [texts]

set_option maxRecDepth 100000 in
set_option maxHeartbeats 2000000 in
theorem marked_cps (s : ByteArray) (block kk : Int) (hkk : W64 kk) (w : World) (hs : s.size ≤ maxLen) (htab : TabW w) (Post : Ending → World → Prop)
    (hp : ∀ n v w', w'.ownsRow w.heap.size 9 1 v n (texts (List.replicate n (Lib.itoa kk))) → Below w.heap.size w w' → Post (.returned (.tuple #[v, .bool true])) w') :
    Calls Tryz.prog 12 #[.string s, .int .i64 block, .int .i64 kk] w Post := by
  have q1 := fun P' => tMarks_cps s block w hs htab P'
  go_enter Tryz.func12, Tryz.ntmps12
  go_wp2_with fail
  refine q1 _ ?_
  intro l er v w1 ha ho hb
  obtain ⟨lo, lc, rfl⟩ := owns_slice ho
  have q2 := fun P' => rMarks_cps s block w1 hs (htab.keep hb) P'
  clear q1
  go_wp2_with fail
  refine q2 _ ?_
  intro m fr v2 w2 ha2 ho2 hb2
  obtain ⟨rfl, rfl⟩ := ha.one ha2
  obtain ⟨mo, mc, rfl⟩ := owns_slice ho2
  have ho3 := owns_below ho hb2 (Nat.le_refl _)
  have q3 := lTexts_any (.slice lo l.length lc) (.slice mo l.length mc) l w2 (texts_rd ho3) (texts_rd ho2)
  have hb3 := hb.trans (hb2.mono hb.size)
  clear q2 ha ha2 ho ho2 hb hb2
  go_wp2_with fail
  refine q3.mono ?_
  rintro e w3 ⟨rfl, b3⟩
  have ho4 := owns_below ho3 b3 (Nat.le_refl _)
  have hb4 := hb3.trans (b3.mono hb3.size)
  have hll := owns_le ho4
  have hE : (er == er) = true := by simp
  have HO := Lib.hid ho4
  have HB := Lib.hid hb4
  have HP := Lib.hid hp
  have HT := Lib.hid htab
  have hn : overT l (Lib.itoa kk) 0 = l := by simp [overT]
  obtain ⟨n, hln⟩ : ∃ n, n = l.length := ⟨_, rfl⟩
  have HLN := Lib.hid hln
  rw [← hln] at HO hll ⊢
  have H0 : Hid (w3.ownsRow w.heap.size 9 1 (.slice lo n lc) n (texts (overT l (Lib.itoa kk) 0))) := by rw [hn]; exact HO.out
  clear q3 ho3 ho4 hb3 hb4 b3 hp htab hn HO hln
  go_wp2
  go_loopw [13] (fun i wr => ∃ (k : Nat), k ≤ n ∧ i = .int .i64 k ∧ wr.ownsRow w.heap.size 9 1 (.slice lo n lc) n (texts (overT l (Lib.itoa kk) k)) ∧ Below w.heap.size w wr)
    (fun i _ => n - (intOf i).toNat)
  case atStart => exact ⟨0, Nat.zero_le _, rfl, H0.out, HB.out⟩
  case round =>
    clear H0 HB
    obtain ⟨k, hk, rfl, hown, hbel⟩ := hrel
    by_cases hlt : k < n
    · have q4 := itoa_any kk hkk wr (HT.out.keep hbel)
      have hki : (0 : Int) ≤ (k : Int) := by omega
      have hkj : (k : Int) < (n : Int) := by omega
      go_wp2_with fail
      refine q4.mono ?_
      rintro e w5 ⟨rfl, b5⟩
      have own5 := owns_below hown b5 (Nat.le_refl _)
      have bel5 := hbel.trans (b5.mono hbel.size)
      have hkl : k < (overT l (Lib.itoa kk) k).length := by rw [overT_length _ _ (by rw [← HLN.out]; omega), ← HLN.out]; exact hlt
      obtain ⟨g, rfl, hgB, hgl, ⟨u, c5⟩, f5⟩ := texts_own own5 hkl
      have own6 := owns_set own5 (g := g) rfl (i := k) (by rw [texts_length]; exact hkl) (.string (str (Lib.itoa kk)))
      rw [texts_set hkl, overT_step _ (by rw [← HLN.out]; exact hlt)] at own6
      have bel6 := cbelow_set bel5 hgB (i := k) (.string (str (Lib.itoa kk)))
      have fk := f5 k
      clear q4 own5 bel5 b5 hown hbel f5 hkl
      generalize str (Lib.itoa kk) = X at *
      go_wp2
      go_roundw
      case rel => exact ⟨k + 1, by omega, by go_num, own6, bel6⟩
      case measure => simp [intOf]; omega
    · obtain rfl : k = n := by omega
      have hfin : overT l (Lib.itoa kk) k = List.replicate k (Lib.itoa kk) := by
        unfold overT
        rw [HLN.out, List.drop_length, List.append_nil]
      rw [hfin] at hown
      have HF := Lib.hid (HP.out k _ wr hown hbel)
      clear hown hbel HP HT hfin
      go_wp2
      exact HF.out

end Go.Proofs.YtblhmeidbjigaaaGreatDoor
