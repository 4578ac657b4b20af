/- The code's blocks: Block, Paired. -/
import Derived.Test.YtblhmeidbjigaabGreatDoorRows
import Derived.WalkKit
import Derived.WalkSpells
import Derived.WalkLawsBesides
import Derived.Laws.BytesArg
import Derived.Deep.QuietTactic
import Derived.BigQuiet
import Derived.Deep.RegionHeld3
import Derived.Lib.ItoaNum
import Derived.Lib.ItoaLen
import Derived.OpenShut
import Derived.Maps.AppendAt
import Derived.Shelf.Strconv.Itoa3
import Derived.Shelf.Lay
import Derived.Ground.NamesProg
import Derived.Lib.SmallJoins
import Derived.Lib.Hide
import Derived.StillTailTactics
import Derived.Test.YtblhmeidbjigaabGreatDoorCCpEToCCpIAll

set_option linter.unusedSimpArgs false
set_option linter.unusedVariables false
namespace Go.Proofs.YtblhmeidbjigaabGreatDoor
open Go.RowKit

/-- A state as a value. -/
def stV (P n cap : Nat) (c : TD) (pc mv : Value) (big : Bool) (regs data : Int) : Value :=
  .agg #[.slice (some ⟨P, 0, none⟩) n cap, .int .i64 (ckind c), .int .i64 (cval c), pc, .int .i64 c.size, .string (str (showT c)), mv, .bool big, .int .i64 regs, .int .i64 data]

/-- A state that is handed back: what it leads to is new. -/
def StV (w0 w : World) (v : Value) (n : Nat) (f : Nat → TD) (c : TD) (ms : List (List UInt8)) (big : Bool) (regs data : Int) : Prop :=
  ∃ B Lo P cap ps pc mv, w0.heap.size ≤ B ∧ v = stV P n cap c pc mv big regs data ∧ StB B Lo w P n f ps c pc ms mv

theorem StB.set10 {B Lo : Nat} {w : World} {P n : Nat} {f : Nat → TD} {ps : Nat → Value} {c : TD} {pc : Value} {ms : List (List UInt8)} {mv : Value} (h : StB B Lo w P n f ps c pc ms mv) {g : Nat} (hg : g < B) (x0 x1 x2 x3 x4 x5 x6 x7 x8 x9 : Value) :
    StB B Lo (Go.Proofs.YtblhmeidbjigaabGreatDoor.set10 w g x0 x1 x2 x3 x4 x5 x6 x7 x8 x9) P n f ps c pc ms mv := by
  have one : ∀ {V : World} (i : Nat) (u : Value), StB B Lo V P n f ps c pc ms mv → StB B Lo (V.setCell ⟨g, i, none⟩ u) P n f ps c pc ms mv := fun i u h => by
    have hL : g < Lo := by have := h.hP; have := h.hP'; omega
    exact ⟨h.pl.off (by have := h.hP; omega) i u, fun k hk => (h.parts k hk).under hL i u, h.pc.under hL i u, owns_unset h.mrk (h.mkne hL) u, h.hP, h.hP'⟩
  exact one _ _ (one _ _ (one _ _ (one _ _ (one _ _ (one _ _ (one _ _ (one _ _ (one _ _ (one _ _ h)))))))))

theorem plain_get {regs slots : Int} {n : Nat} (hn : (n : Int) = regs + slots) (i : Nat) (hi : i < n) : firstT (plainNames regs slots) (i : Int) = if (i : Int) < regs then .leaf 101 i else .leaf 102 i := by
  have hl : (plainNames regs slots).length = n := by unfold plainNames; simp; omega
  have hg : (plainNames regs slots).getD (i : Int).toNat 0 = if (i : Int) < regs then (i : Int) else -1 := by
    unfold plainNames
    have : i < (regs + slots).toNat := by omega
    simp [List.getD, this]
  unfold firstT
  rw [if_neg (by omega), hg]
  by_cases h : (i : Int) < regs
  · rw [if_pos h, if_neg (by omega), if_pos h]
  · rw [if_neg h, if_pos (by omega), if_neg h]

theorem plain_up (k i : Nat) : upT (fun i : Nat => if i < k then TD.leaf 101 (i : Int) else TD.leaf 102 (i : Int)) k (.leaf 101 (k : Int)) i = if i < k + 1 then TD.leaf 101 (i : Int) else TD.leaf 102 (i : Int) := by
  unfold upT
  by_cases q : i = k
  · subst q; simp
  · by_cases q2 : i < k
    · simp [q, q2, show i < k + 1 by omega]
    · simp [q, q2, show ¬ i < k + 1 by omega]

theorem first_end {names : List Int} {n : Nat} (h : names.length = n) : firstT names (n : Int) = .leaf 103 0 := by
  unfold firstT; rw [if_pos (by omega)]

theorem plain_length {regs slots : Int} {n : Nat} (hn : (n : Int) = regs + slots) : (plainNames regs slots).length = n := by unfold plainNames; simp; omega

theorem plain_small {regs slots : Int} (hr : regs ≤ 100) : ∀ x ∈ plainNames regs slots, x ≤ 1000 := by
  intro x hx
  unfold plainNames at hx
  obtain ⟨i, _, rfl⟩ := List.mem_map.1 hx
  split <;> omega

theorem names_length (ps : List PairD) (n : Nat) : (namesOf ps n).length = n := by unfold namesOf; simp

theorem names_small {ps : List PairD} (h : ∀ x ∈ ps, x.reg ≤ 1000) (n : Nat) : ∀ x ∈ namesOf ps n, x ≤ 1000 := by
  intro x hx
  unfold namesOf at hx
  obtain ⟨i, _, rfl⟩ := List.mem_map.1 hx
  split
  · rename_i y hy; exact h y (List.mem_of_find?_eq_some hy)
  · omega

/-- What a place begins with, when the first k pairs are laid. -/
def pairT (ps : List PairD) (i : Nat) : TD := match ps.find? (fun x => decide (x.place = (i : Int))) with | some x => .leaf 101 x.reg | none => .leaf 102 i

theorem pair_first {ps : List PairD} (h : ∀ x ∈ ps, 0 ≤ x.reg) {n i : Nat} (hi : i < n) : pairT ps i = firstT (namesOf ps n) (i : Int) := by
  unfold firstT pairT
  rw [names_length, if_neg (by omega), namesOf_get ps (by omega) (by omega)]
  cases hf : ps.find? (fun x => decide (x.place = (i : Int))) with
  | none => simp
  | some x =>
    have := h x (List.mem_of_find?_eq_some hf)
    simp only
    rw [if_neg (by omega)]

theorem pair_step {ps : List PairD} {k e : Nat} (hk : k < ps.length) (he : pplace ps k = (e : Int)) (hd : ∀ j, j < k → pplace ps j ≠ pplace ps k) (i : Nat) :
    upT (pairT (ps.take k)) e (.leaf 101 (preg ps k)) i = pairT (ps.take (k + 1)) i := by
  have hx : ps.take (k + 1) = ps.take k ++ [ps.getD k pz] := by
    rw [List.take_add_one, List.getElem?_eq_getElem hk]
    simp [List.getD, hk]
  unfold upT pairT
  rw [hx, List.find?_append]
  by_cases q : i = e
  · subst q
    rw [if_pos rfl]
    have hnone : (ps.take k).find? (fun x => decide (x.place = (i : Int))) = none := by
      rw [List.find?_eq_none]
      intro x hx hp
      obtain ⟨j, hj, rfl⟩ := List.getElem_of_mem hx
      have hj' : j < k := by simp at hj; omega
      refine hd j hj' ?_
      have e1 : pplace ps j = (ps.take k)[j].place := by simp [pplace, List.getD, show j < ps.length by omega]
      rw [e1, he]
      simpa using hp
    rw [hnone]
    have e2 : (ps.getD k pz).place = (i : Int) := he
    simp only [List.find?_cons, e2, decide_true, Option.none_or]
    rfl
  · rw [if_neg q]
    have e2 : ¬ (ps.getD k pz).place = (i : Int) := by
      show ¬ pplace ps k = (i : Int)
      rw [he]; omega
    simp only [List.find?_cons, e2, decide_false, List.find?_nil, Option.or_none]

set_option maxRecDepth 100000 in
set_option maxHeartbeats 4000000 in
theorem cBlock_cps (p : ProgD) (pv : Value) (b : Nat) (n : Nat) (hn : (n : Int) = p.regs + p.slots) (hg : progGood p = true) (hb : b < p.blocks.length) (w : World) (hrd : RdBlocks w pv p.blocks) (ht : TabW w) (Post : Ending → World → Prop)
    (hbig : bigT p.regs p.slots (plainNames p.regs p.slots) (bops p.blocks b) = true → ∀ v w' f c ms, StV w w' v n f c ms true p.regs p.data → Below w.heap.size w w' → Post (.returned v) w')
    (hok : bigT p.regs p.slots (plainNames p.regs p.slots) (bops p.blocks b) = false → ∀ v w', StV w w' v n (fun i : Nat => behindT p.regs p.slots (plainNames p.regs p.slots) (bops p.blocks b) (bops p.blocks b).length (i : Int)) (behindT p.regs p.slots (plainNames p.regs p.slots) (bops p.blocks b) (bops p.blocks b).length (n : Int)) (marksT p.regs p.slots p.data (plainNames p.regs p.slots) (bops p.blocks b) (bops p.blocks b).length) false p.regs p.data → Below w.heap.size w w' → Post (.returned v) w') :
    Calls Tryz.prog 131 #[progV p pv, .int .i64 b] w Post := by
  obtain ⟨hr, hargs, hdata, hs⟩ := good_shape hg
  obtain ⟨h12, hops⟩ := good_block hg hb
  obtain ⟨bo, bc, hpv, hll, hcc⟩ := id hrd
  obtain ⟨bn, hbn⟩ : ∃ bn, bn = p.blocks.length := ⟨_, rfl⟩
  rw [← hbn] at hpv
  subst hpv
  have HBN := Lib.hid hbn
  clear hbn
  obtain ⟨bb, boff, sv, rfl, y0, y1, y2, y3, y4, hro⟩ := hcc b hb
  clear hcc
  have hb0 : Below w.heap.size w ((w.alloc (.cells #[.int .i64 p.args, .int .i64 p.regs, .int .i64 p.data, .int .i64 p.slots, .slice (some ⟨bb, boff, none⟩) bn bc] 25)).alloc (.cells #[.slice none 0 0, .int .i64 0, .int .i64 0, .slice none 0 0, .int .i64 0, .string ⟨#[]⟩, .slice none 0 0, .bool false, .int .i64 0, .int .i64 0] 181)) := ((Below.refl _ _).alloc (Nat.le_refl _) _).alloc (by simp) _
  have ro : Row ((w.alloc (.cells #[.int .i64 p.args, .int .i64 p.regs, .int .i64 p.data, .int .i64 p.slots, .slice (some ⟨bb, boff, none⟩) bn bc] 25)).alloc (.cells #[.slice none 0 0, .int .i64 0, .int .i64 0, .slice none 0 0, .int .i64 0, .string ⟨#[]⟩, .slice none 0 0, .bool false, .int .i64 0, .int .i64 0] 181)) w.heap.size 25 [.int .i64 p.args, .int .i64 p.regs, .int .i64 p.data, .int .i64 p.slots, .slice (some ⟨bb, boff, none⟩) bn bc] := Row.alloc (heap_alloc_new w _) _
  have rg : Row ((w.alloc (.cells #[.int .i64 p.args, .int .i64 p.regs, .int .i64 p.data, .int .i64 p.slots, .slice (some ⟨bb, boff, none⟩) bn bc] 25)).alloc (.cells #[.slice none 0 0, .int .i64 0, .int .i64 0, .slice none 0 0, .int .i64 0, .string ⟨#[]⟩, .slice none 0 0, .bool false, .int .i64 0, .int .i64 0] 181)) (w.heap.size + 1) 181 [.slice none 0 0, .int .i64 0, .int .i64 0, .slice none 0 0, .int .i64 0, .string ⟨#[]⟩, .slice none 0 0, .bool false, .int .i64 0, .int .i64 0] := heap_alloc2_new w _ _
  have HZ : Hid (((w.alloc (.cells #[.int .i64 p.args, .int .i64 p.regs, .int .i64 p.data, .int .i64 p.slots, .slice (some ⟨bb, boff, none⟩) bn bc] 25)).alloc (.cells #[.slice none 0 0, .int .i64 0, .int .i64 0, .slice none 0 0, .int .i64 0, .string ⟨#[]⟩, .slice none 0 0, .bool false, .int .i64 0, .int .i64 0] 181)).heap.size = w.heap.size + 2) := by show _ = _; simp
  have q1 := fun P' => cBegin_cps p.args p.regs p.data p.slots (.slice (some ⟨bb, boff, none⟩) bn bc) ⟨_, _, _, rfl⟩ n hn (by omega) (by omega) ((w.alloc (.cells #[.int .i64 p.args, .int .i64 p.regs, .int .i64 p.data, .int .i64 p.slots, .slice (some ⟨bb, boff, none⟩) bn bc] 25)).alloc (.cells #[.slice none 0 0, .int .i64 0, .int .i64 0, .slice none 0 0, .int .i64 0, .string ⟨#[]⟩, .slice none 0 0, .bool false, .int .i64 0, .int .i64 0] 181)) (ht.keep hb0) P'
  have HRO := Lib.hid ro
  have HRG := Lib.hid rg
  have HB0 := Lib.hid hb0
  have HT := Lib.hid ht
  have HP1 := Lib.hid hbig
  have HP2 := Lib.hid hok
  have HR := Lib.hid hrd
  have HOPS := Lib.hid hro
  have HN := Lib.hid hn
  have Hn1 : n ≤ 200 := by omega
  have Hn2 : p.regs ≤ n := by omega
  unfold progV
  clear hbig hok ro rg hb0 ht hrd hn hro
  go_enter Tryz.func131, Tryz.ntmps131
  go_wp2_with fail
  refine q1 _ ?_
  intro P cap w1 hP hP' hpl b1 hz1
  have hzz := HZ.out
  have hX : Below w1.heap.size w1 (w1.alloc (.cells #[.slice (some ⟨P, 0, none⟩) n cap, .int .i64 0, .int .i64 0, .slice none 0 0, .int .i64 1, .string ⟨#[109]⟩, .slice none 0 0, .bool false, .int .i64 p.regs, .int .i64 p.data] 181)) := (Below.refl _ _).alloc (Nat.le_refl _) _
  have hzX : w1.heap.size + 1 ≤ (w1.alloc (.cells #[.slice (some ⟨P, 0, none⟩) n cap, .int .i64 0, .int .i64 0, .slice none 0 0, .int .i64 1, .string ⟨#[109]⟩, .slice none 0 0, .bool false, .int .i64 p.regs, .int .i64 p.data] 181)).heap.size := by simp
  have U1 : StU (w.heap.size + 2) (w1.heap.size + 1) (w1.alloc (.cells #[.slice (some ⟨P, 0, none⟩) n cap, .int .i64 0, .int .i64 0, .slice none 0 0, .int .i64 1, .string ⟨#[109]⟩, .slice none 0 0, .bool false, .int .i64 p.regs, .int .i64 p.data] 181)) w1.heap.size P cap n (fun i => .leaf 102 i) (fun _ => .slice none 0 0) (.leaf 103 0) (.slice none 0 0) [] (.slice none 0 0) false p.regs p.data := by
    refine ⟨?_, ⟨hpl.keep hX, fun i hi => ⟨rfl, hzX⟩, ⟨rfl, hzX⟩, World.ownsRow_nil _ _ _ _, by rw [hzz] at hP; exact hP, by omega⟩, by rw [hzz] at hz1; omega, by omega, by omega⟩
    have := heap_alloc_new w1 (.cells #[.slice (some ⟨P, 0, none⟩) n cap, .int .i64 0, .int .i64 0, .slice none 0 0, .int .i64 1, .string ⟨#[109]⟩, .slice none 0 0, .bool false, .int .i64 p.regs, .int .i64 p.data] 181)
    exact this
  have hBX : Below (w.heap.size + 2) ((w.alloc (.cells #[.int .i64 p.args, .int .i64 p.regs, .int .i64 p.data, .int .i64 p.slots, .slice (some ⟨bb, boff, none⟩) bn bc] 25)).alloc (.cells #[.slice none 0 0, .int .i64 0, .int .i64 0, .slice none 0 0, .int .i64 0, .string ⟨#[]⟩, .slice none 0 0, .bool false, .int .i64 0, .int .i64 0] 181)) (w1.alloc (.cells #[.slice (some ⟨P, 0, none⟩) n cap, .int .i64 0, .int .i64 0, .slice none 0 0, .int .i64 1, .string ⟨#[109]⟩, .slice none 0 0, .bool false, .int .i64 p.regs, .int .i64 p.data] 181)) := by
    rw [hzz] at b1
    exact b1.trans (hX.mono (by rw [hzz] at hz1; omega))
  have H0 : StAt (w.heap.size + 2) (w1.heap.size + 1) (w1.alloc (.cells #[.slice (some ⟨P, 0, none⟩) n cap, .int .i64 0, .int .i64 0, .slice none 0 0, .int .i64 1, .string ⟨#[109]⟩, .slice none 0 0, .bool false, .int .i64 p.regs, .int .i64 p.data] 181)) w1.heap.size P cap n (fun i : Nat => if i < 0 then .leaf 101 (i : Int) else .leaf 102 (i : Int)) (.leaf 103 0) [] false p.regs p.data := U1.at.congr (fun i _ => by simp [pairT]) rfl rfl rfl
  have HH0 := Lib.hid H0
  have HBX := Lib.hid hBX
  clear q1 hpl b1 hX hzX U1 H0 hBX hz1 hzz hP hP'
  go_wp2
  generalize w1.heap.size + 1 = Lo at *
  generalize w1.heap.size = M at *
  go_loopw [6] (fun i wr => ∃ (k : Nat), k ≤ p.regs.toNat ∧ i = .int .i64 k ∧ StAt (w.heap.size + 2) Lo wr M P cap n (fun i : Nat => if i < k then .leaf 101 (i : Int) else .leaf 102 (i : Int)) (.leaf 103 0) [] false p.regs p.data ∧ Below (w.heap.size + 2) ((w.alloc (.cells #[.int .i64 p.args, .int .i64 p.regs, .int .i64 p.data, .int .i64 p.slots, .slice (some ⟨bb, boff, none⟩) bn bc] 25)).alloc (.cells #[.slice none 0 0, .int .i64 0, .int .i64 0, .slice none 0 0, .int .i64 0, .string ⟨#[]⟩, .slice none 0 0, .bool false, .int .i64 0, .int .i64 0] 181)) wr)
    (fun i _ => p.regs.toNat - (intOf i).toNat)
  case atStart => exact ⟨0, Nat.zero_le _, rfl, HH0.out, HBX.out⟩
  case round =>
    clear HH0 HBX
    obtain ⟨k, hk, rfl, hst, hB⟩ := hrel
    have hzz := HZ.out
    have ro := HRO.out.below hB (by omega)
    have x1 := ro.cell (i := 1) rfl
    have hBw : Below w.heap.size w wr := HB0.out.trans (hB.mono (by omega))
    by_cases hlt : k < p.regs.toNat
    · obtain ⟨ps, pc, mv, U⟩ := hst
      have d0 : Below wr.heap.size wr wr.drew := (Below.refl _ _).drew
      have nM : M ≠ P := Ne.symm U.ne
      have m0 := fun V (h : Keep (fun g => g = P) wr V) => h.cell nM (U.row.cell (i := 0) rfl)
      have k0 : Keep (fun g => g = P) wr wr.drew := (Keep.refl _ _).below d0 (Nat.le_refl _)
      have ha : k < n := by omega
      have hw : W64 (k : Int) := by constructor <;> omega
      have hai : (0 : Int) ≤ (k : Int) := by omega
      have haj : (k : Int) < (n : Int) := by omega
      have q2 := cOfRegister_any (k : Int) hw wr.drew (HT.out.keep (hBw.trans (d0.mono hBw.size)))
      unfold termV at q2
      have HU := Lib.hid U
      have HBr := Lib.hid hB
      have hreg : (k : Int) < p.regs ∨ True := .inr trivial
      clear U ro hB hBw hreg
      have hkr : (k : Int) < p.regs := by omega
      go_wp2
      go_region_held3 (fun V => Keep (fun g => g = P) wr V) (first | with_reducible exact k0 | with_reducible exact k2 | with_reducible exact k3) (first | (go_at_call 162; refine q2.mono ?_; rintro er w2 ⟨rfl, b2⟩; have b3 : Below wr.heap.size wr w2 := d0.trans (b2.mono d0.size); have k2 : Keep (fun g => g = P) wr w2 := (Keep.refl _ _).below b3 (Nat.le_refl _); have U2 := HU.out.next b3; have p2 : PartsAt Lo w2 (.leaf 101 (k : Int)) (.slice none 0 0) := ⟨rfl, U2.b.pc.lo⟩; have U5 := U2.place ha p2; have HM5 := ((Mv.of b3 HU.out.le : Mv (w.heap.size + 2) Lo wr w2)).putT U2.b.hP U2.b.hP' (k * 5) (.leaf 101 (k : Int)) (.slice none 0 0); have HU5 := Lib.hid (And.intro U5.at HM5.low); unfold putT put5 at HU5; have k3 := ((((k2.setCell (p := ⟨P, k * 5, none⟩) (.inl rfl) (.int .i64 (ckind (.leaf 101 (k : Int))))).setCell (p := ⟨P, k * 5 + 1, none⟩) (.inl rfl) (.int .i64 (cval (.leaf 101 (k : Int))))).setCell (p := ⟨P, k * 5 + 2, none⟩) (.inl rfl) (.slice none 0 0)).setCell (p := ⟨P, k * 5 + 3, none⟩) (.inl rfl) (.int .i64 (TD.size (.leaf 101 (k : Int))))).setCell (p := ⟨P, k * 5 + 4, none⟩) (.inl rfl) (.string (str (showT (.leaf 101 (k : Int))))); have h0 := U2.b.pl.frozen (k * 5); have h1 := U2.b.pl.frozen (k * 5 + 1); have h2 := U2.b.pl.frozen (k * 5 + 2); have h3 := U2.b.pl.frozen (k * 5 + 3); have h4 := U2.b.pl.frozen (k * 5 + 4); have s0 := U2.b.pl.cell (j := 0) ha rfl; have s1 := U2.b.pl.cell (j := 1) ha rfl; have s2 := U2.b.pl.cell (j := 2) ha rfl; have s3 := U2.b.pl.cell (j := 3) ha rfl; have s4 := U2.b.pl.cell (j := 4) ha rfl; rw [Nat.add_zero] at s0; obtain ⟨qo', qn', qc', hpq⟩ := (U2.b.parts k ha).slice; rw [hpq] at s2; clear hpq U5 HM5))
      go_wp2
      have h9 := HU5.out.1.congr (g := (fun i : Nat => if i < (k + 1) then .leaf 101 (i : Int) else .leaf 102 (i : Int))) (fun i _ => plain_up k i) rfl rfl rfl
      have b9 := HBr.out.trans HU5.out.2
      clear HU5 HU HBr U2 k0 k2 k3 b2 b3 q2
      go_roundw
      case rel => exact ⟨k + 1, by omega, by go_num, h9, b9⟩
      case measure => simp [intOf]; omega
    · obtain rfl : k = p.regs.toNat := by omega
      have hend : ¬ (((p.regs.toNat : Nat) : Int) < p.regs) := by omega
      have x4 := ro.cell (i := 4) rfl
      have e0 := cell_keep hBw y0
      have hbi : (0 : Int) ≤ (b : Int) := by omega
      have hbj : (b : Int) < (bn : Int) := by have := HBN.out; omega
      have hst2 : StAt (w.heap.size + 2) Lo wr M P cap n (fun i : Nat => firstT (plainNames p.regs p.slots) (i : Int)) (firstT (plainNames p.regs p.slots) (n : Int)) [] false p.regs p.data := hst.congr (fun i hi => by rw [plain_get HN.out i hi]; by_cases q : (i : Int) < p.regs; (rw [if_pos (show i < p.regs.toNat by omega), if_pos q]); (rw [if_neg (show ¬ i < p.regs.toNat by omega), if_neg q])) (by rw [first_end (plain_length HN.out)]) rfl rfl
      have q3 := fun P' => cDoAll_cps hst2 HN.out (by omega) (by omega) (plain_small (by omega)) (bops p.blocks b) h12 hops sv (fun V hv => HOPS.out.keep (hBw.trans (hv.mono (by omega)))) (fun V hv => HT.out.keep (hBw.trans (hv.mono (by omega)))) P'
      obtain ⟨so, sn, sc, rfl⟩ : ∃ so sn sc, sv = .slice so sn sc := let ⟨so, sc, e, _⟩ := HOPS.out; ⟨so, _, sc, e⟩
      clear hst hst2 ro hBw
      go_wp2_with fail
      refine q3 _ ?_ ?_
      · intro hbg w3 f3 c3' ms3 h3 m3
        obtain ⟨ps3, pc3, mv3, U3⟩ := h3
        obtain ⟨c3, hc3⟩ : ∃ c3, c3 = c3' := ⟨_, rfl⟩
        rw [← hc3] at U3
        obtain ⟨co, cn, cc, rfl⟩ := U3.b.pc.slice
        obtain ⟨mo, mc, hmv⟩ := owns_slice U3.b.mrk
        subst hmv
        obtain ⟨mn, hmn⟩ : ∃ mn, mn = (ms3).length := ⟨_, rfl⟩
        rw [← hmn] at U3
        have b3 : Below (w.heap.size + 2) ((w.alloc (.cells #[.int .i64 p.args, .int .i64 p.regs, .int .i64 p.data, .int .i64 p.slots, .slice (some ⟨bb, boff, none⟩) bn bc] 25)).alloc (.cells #[.slice none 0 0, .int .i64 0, .int .i64 0, .slice none 0 0, .int .i64 0, .string ⟨#[]⟩, .slice none 0 0, .bool false, .int .i64 0, .int .i64 0] 181)) w3 := hB.trans m3.low
        have rg3 := HRG.out.below b3 (by omega)
        have hS := U3.b.set10 (g := w.heap.size + 1) (by omega) (.slice (some ⟨P, 0, none⟩) n cap) (.int .i64 (ckind c3)) (.int .i64 (cval c3)) (.slice co cn cc) (.int .i64 c3.size) (.string (str (showT c3))) (.slice mo mn mc) (.bool true) (.int .i64 p.regs) (.int .i64 p.data)
        have hb3 : Below w.heap.size w (set10 w3 (w.heap.size + 1) (.slice (some ⟨P, 0, none⟩) n cap) (.int .i64 (ckind c3)) (.int .i64 (cval c3)) (.slice co cn cc) (.int .i64 c3.size) (.string (str (showT c3))) (.slice mo mn mc) (.bool true) (.int .i64 p.regs) (.int .i64 p.data)) := by
          have k3 : Keep (fun g => g = w.heap.size + 1) w3 (set10 w3 (w.heap.size + 1) (.slice (some ⟨P, 0, none⟩) n cap) (.int .i64 (ckind c3)) (.int .i64 (cval c3)) (.slice co cn cc) (.int .i64 c3.size) (.string (str (showT c3))) (.slice mo mn mc) (.bool true) (.int .i64 p.regs) (.int .i64 p.data)) := (Keep.refl (fun g => g = w.heap.size + 1) w3).set10 (g := w.heap.size + 1) rfl _ _ _ _ _ _ _ _ _ _
          exact (HB0.out.trans (b3.mono (by omega))).trans (k3.toBelow (by have := b3.size; have := HZ.out; omega) (fun g e => by omega))
        have hv : StV w (set10 w3 (w.heap.size + 1) (.slice (some ⟨P, 0, none⟩) n cap) (.int .i64 (ckind c3)) (.int .i64 (cval c3)) (.slice co cn cc) (.int .i64 c3.size) (.string (str (showT c3))) (.slice mo mn mc) (.bool true) (.int .i64 p.regs) (.int .i64 p.data)) (stV P n cap c3 (.slice co cn cc) (.slice mo mn mc) true p.regs p.data) n f3 c3 (ms3) true p.regs p.data := ⟨w.heap.size + 2, Lo, P, cap, ps3, .slice co cn cc, .slice mo mn mc, by omega, rfl, hS⟩
        rw [hc3] at hv
        have HF := Lib.hid (HP1.out hbg _ _ f3 c3' ms3 hv (by rw [hc3] at hb3; exact hb3))
        rw [← hc3] at HF
        clear hv
        unfold stV set10 at HF
        have mm0 := U3.row.cell (i := 0) rfl
        have z0 := rg3.cell (i := 0) rfl
        have f0 := rg3.frozen 0
        have mm1 := U3.row.cell (i := 1) rfl
        have z1 := rg3.cell (i := 1) rfl
        have f1 := rg3.frozen 1
        have mm2 := U3.row.cell (i := 2) rfl
        have z2 := rg3.cell (i := 2) rfl
        have f2 := rg3.frozen 2
        have mm3 := U3.row.cell (i := 3) rfl
        have z3 := rg3.cell (i := 3) rfl
        have f3 := rg3.frozen 3
        have mm4 := U3.row.cell (i := 4) rfl
        have z4 := rg3.cell (i := 4) rfl
        have f4 := rg3.frozen 4
        have mm5 := U3.row.cell (i := 5) rfl
        have z5 := rg3.cell (i := 5) rfl
        have f5 := rg3.frozen 5
        have mm6 := U3.row.cell (i := 6) rfl
        have z6 := rg3.cell (i := 6) rfl
        have f6 := rg3.frozen 6
        have mm7 := U3.row.cell (i := 7) rfl
        have z7 := rg3.cell (i := 7) rfl
        have f7 := rg3.frozen 7
        have mm8 := U3.row.cell (i := 8) rfl
        have z8 := rg3.cell (i := 8) rfl
        have f8 := rg3.frozen 8
        have mm9 := U3.row.cell (i := 9) rfl
        have z9 := rg3.cell (i := 9) rfl
        have f9 := rg3.frozen 9
        clear hS hb3 U3 rg3 b3 m3 hc3 hmn HRO HRG HB0 HP1 HP2
        go_wp2
        (try simp only [Exit.inBlock, Exit.then])
        refine bodyPost_ret (v := .agg #[.slice (some ⟨P, 0, none⟩) n cap, .int .i64 (ckind c3), .int .i64 (cval c3), .slice co cn cc, .int .i64 c3.size, .string (str (showT c3)), .slice mo mn mc, .bool true, .int .i64 p.regs, .int .i64 p.data]) ?_ rfl ?_
        · simp [results, Tryz.results131, go_sem, z0, z1, z2, z3, z4, z5, z6, z7, z8, z9]
        · exact HF.out
      · intro hbg w3 h3 m3
        obtain ⟨ps3, pc3, mv3, U3⟩ := h3
        obtain ⟨c3, hc3⟩ : ∃ c3, c3 = behindT p.regs p.slots (plainNames p.regs p.slots) (bops p.blocks b) (bops p.blocks b).length (n : Int) := ⟨_, rfl⟩
        rw [← hc3] at U3
        obtain ⟨co, cn, cc, rfl⟩ := U3.b.pc.slice
        obtain ⟨mo, mc, hmv⟩ := owns_slice U3.b.mrk
        subst hmv
        obtain ⟨mn, hmn⟩ : ∃ mn, mn = (marksT p.regs p.slots p.data (plainNames p.regs p.slots) (bops p.blocks b) (bops p.blocks b).length).length := ⟨_, rfl⟩
        rw [← hmn] at U3
        have b3 : Below (w.heap.size + 2) ((w.alloc (.cells #[.int .i64 p.args, .int .i64 p.regs, .int .i64 p.data, .int .i64 p.slots, .slice (some ⟨bb, boff, none⟩) bn bc] 25)).alloc (.cells #[.slice none 0 0, .int .i64 0, .int .i64 0, .slice none 0 0, .int .i64 0, .string ⟨#[]⟩, .slice none 0 0, .bool false, .int .i64 0, .int .i64 0] 181)) w3 := hB.trans m3.low
        have rg3 := HRG.out.below b3 (by omega)
        have hS := U3.b.set10 (g := w.heap.size + 1) (by omega) (.slice (some ⟨P, 0, none⟩) n cap) (.int .i64 (ckind c3)) (.int .i64 (cval c3)) (.slice co cn cc) (.int .i64 c3.size) (.string (str (showT c3))) (.slice mo mn mc) (.bool false) (.int .i64 p.regs) (.int .i64 p.data)
        have hb3 : Below w.heap.size w (set10 w3 (w.heap.size + 1) (.slice (some ⟨P, 0, none⟩) n cap) (.int .i64 (ckind c3)) (.int .i64 (cval c3)) (.slice co cn cc) (.int .i64 c3.size) (.string (str (showT c3))) (.slice mo mn mc) (.bool false) (.int .i64 p.regs) (.int .i64 p.data)) := by
          have k3 : Keep (fun g => g = w.heap.size + 1) w3 (set10 w3 (w.heap.size + 1) (.slice (some ⟨P, 0, none⟩) n cap) (.int .i64 (ckind c3)) (.int .i64 (cval c3)) (.slice co cn cc) (.int .i64 c3.size) (.string (str (showT c3))) (.slice mo mn mc) (.bool false) (.int .i64 p.regs) (.int .i64 p.data)) := (Keep.refl (fun g => g = w.heap.size + 1) w3).set10 (g := w.heap.size + 1) rfl _ _ _ _ _ _ _ _ _ _
          exact (HB0.out.trans (b3.mono (by omega))).trans (k3.toBelow (by have := b3.size; have := HZ.out; omega) (fun g e => by omega))
        have hv : StV w (set10 w3 (w.heap.size + 1) (.slice (some ⟨P, 0, none⟩) n cap) (.int .i64 (ckind c3)) (.int .i64 (cval c3)) (.slice co cn cc) (.int .i64 c3.size) (.string (str (showT c3))) (.slice mo mn mc) (.bool false) (.int .i64 p.regs) (.int .i64 p.data)) (stV P n cap c3 (.slice co cn cc) (.slice mo mn mc) false p.regs p.data) n (fun i : Nat => behindT p.regs p.slots (plainNames p.regs p.slots) (bops p.blocks b) (bops p.blocks b).length (i : Int)) c3 (marksT p.regs p.slots p.data (plainNames p.regs p.slots) (bops p.blocks b) (bops p.blocks b).length) false p.regs p.data := ⟨w.heap.size + 2, Lo, P, cap, ps3, .slice co cn cc, .slice mo mn mc, by omega, rfl, hS⟩
        rw [hc3] at hv
        have HF := Lib.hid (HP2.out hbg _ _ hv (by rw [hc3] at hb3; exact hb3))
        rw [← hc3] at HF
        clear hv
        unfold stV set10 at HF
        have mm0 := U3.row.cell (i := 0) rfl
        have z0 := rg3.cell (i := 0) rfl
        have f0 := rg3.frozen 0
        have mm1 := U3.row.cell (i := 1) rfl
        have z1 := rg3.cell (i := 1) rfl
        have f1 := rg3.frozen 1
        have mm2 := U3.row.cell (i := 2) rfl
        have z2 := rg3.cell (i := 2) rfl
        have f2 := rg3.frozen 2
        have mm3 := U3.row.cell (i := 3) rfl
        have z3 := rg3.cell (i := 3) rfl
        have f3 := rg3.frozen 3
        have mm4 := U3.row.cell (i := 4) rfl
        have z4 := rg3.cell (i := 4) rfl
        have f4 := rg3.frozen 4
        have mm5 := U3.row.cell (i := 5) rfl
        have z5 := rg3.cell (i := 5) rfl
        have f5 := rg3.frozen 5
        have mm6 := U3.row.cell (i := 6) rfl
        have z6 := rg3.cell (i := 6) rfl
        have f6 := rg3.frozen 6
        have mm7 := U3.row.cell (i := 7) rfl
        have z7 := rg3.cell (i := 7) rfl
        have f7 := rg3.frozen 7
        have mm8 := U3.row.cell (i := 8) rfl
        have z8 := rg3.cell (i := 8) rfl
        have f8 := rg3.frozen 8
        have mm9 := U3.row.cell (i := 9) rfl
        have z9 := rg3.cell (i := 9) rfl
        have f9 := rg3.frozen 9
        clear hS hb3 U3 rg3 b3 m3 hc3 hmn HRO HRG HB0 HP1 HP2
        go_wp2
        (try simp only [Exit.inBlock, Exit.then])
        refine bodyPost_ret (v := .agg #[.slice (some ⟨P, 0, none⟩) n cap, .int .i64 (ckind c3), .int .i64 (cval c3), .slice co cn cc, .int .i64 c3.size, .string (str (showT c3)), .slice mo mn mc, .bool false, .int .i64 p.regs, .int .i64 p.data]) ?_ rfl ?_
        · simp [results, Tryz.results131, go_sem, z0, z1, z2, z3, z4, z5, z6, z7, z8, z9]
        · exact HF.out


end Go.Proofs.YtblhmeidbjigaabGreatDoor

/- The code's blocks: Paired. -/
set_option linter.unusedSimpArgs false
set_option linter.unusedVariables false
namespace Go.Proofs.YtblhmeidbjigaabGreatDoor
open Go.RowKit

theorem cell_lt {w : World} {b o : Nat} {v : Value} (h : w.cell? ⟨b, o, none⟩ = some v) : b < w.heap.size := by
  unfold World.cell? at h
  rcases Nat.lt_or_ge b w.heap.size with q | q
  · exact q
  · simp [Array.getElem?_eq_none q] at h

set_option maxRecDepth 100000 in
set_option maxHeartbeats 4000000 in
theorem cPaired_cps (p : ProgD) (pv : Value) (b : Nat) (n : Nat) (hn : (n : Int) = p.regs + p.slots) (hg : progGood p = true) (hb : b < p.blocks.length) (w : World) (qs : List PairD) (qv : Value) (hqd : ∀ j k, j < k → k < qs.length → pplace qs j ≠ pplace qs k) (hqp : ∀ x ∈ qs, 0 ≤ x.reg ∧ x.reg ≤ 1000 ∧ 0 ≤ x.place ∧ x.place < p.regs + p.slots) (hqr : RdPairs w qv qs) (hrd : RdBlocks w pv p.blocks) (ht : TabW w) (Post : Ending → World → Prop)
    (hbig : bigT p.regs p.slots (namesOf qs n) (bops p.blocks b) = true → ∀ v w' f c ms, StV w w' v n f c ms true p.regs p.data → Below w.heap.size w w' → Post (.returned v) w')
    (hok : bigT p.regs p.slots (namesOf qs n) (bops p.blocks b) = false → ∀ v w', StV w w' v n (fun i : Nat => behindT p.regs p.slots (namesOf qs n) (bops p.blocks b) (bops p.blocks b).length (i : Int)) (behindT p.regs p.slots (namesOf qs n) (bops p.blocks b) (bops p.blocks b).length (n : Int)) (marksT p.regs p.slots p.data (namesOf qs n) (bops p.blocks b) (bops p.blocks b).length) false p.regs p.data → Below w.heap.size w w' → Post (.returned v) w') :
    Calls Tryz.prog 132 #[progV p pv, .int .i64 b, qv] w Post := by
  obtain ⟨hr, hargs, hdata, hs⟩ := good_shape hg
  obtain ⟨h12, hops⟩ := good_block hg hb
  obtain ⟨bo, bc, hpv, hll, hcc⟩ := id hrd
  obtain ⟨bn, hbn⟩ : ∃ bn, bn = p.blocks.length := ⟨_, rfl⟩
  rw [← hbn] at hpv
  subst hpv
  have HBN := Lib.hid hbn
  clear hbn
  obtain ⟨bb, boff, sv, rfl, y0, y1, y2, y3, y4, hro⟩ := hcc b hb
  clear hcc
  obtain ⟨qo, qcap, rfl, hql, hqc⟩ := id hqr
  have hb0 : Below w.heap.size w ((w.alloc (.cells #[.int .i64 p.args, .int .i64 p.regs, .int .i64 p.data, .int .i64 p.slots, .slice (some ⟨bb, boff, none⟩) bn bc] 25)).alloc (.cells #[.slice none 0 0, .int .i64 0, .int .i64 0, .slice none 0 0, .int .i64 0, .string ⟨#[]⟩, .slice none 0 0, .bool false, .int .i64 0, .int .i64 0] 181)) := ((Below.refl _ _).alloc (Nat.le_refl _) _).alloc (by simp) _
  have ro : Row ((w.alloc (.cells #[.int .i64 p.args, .int .i64 p.regs, .int .i64 p.data, .int .i64 p.slots, .slice (some ⟨bb, boff, none⟩) bn bc] 25)).alloc (.cells #[.slice none 0 0, .int .i64 0, .int .i64 0, .slice none 0 0, .int .i64 0, .string ⟨#[]⟩, .slice none 0 0, .bool false, .int .i64 0, .int .i64 0] 181)) w.heap.size 25 [.int .i64 p.args, .int .i64 p.regs, .int .i64 p.data, .int .i64 p.slots, .slice (some ⟨bb, boff, none⟩) bn bc] := Row.alloc (heap_alloc_new w _) _
  have rg : Row ((w.alloc (.cells #[.int .i64 p.args, .int .i64 p.regs, .int .i64 p.data, .int .i64 p.slots, .slice (some ⟨bb, boff, none⟩) bn bc] 25)).alloc (.cells #[.slice none 0 0, .int .i64 0, .int .i64 0, .slice none 0 0, .int .i64 0, .string ⟨#[]⟩, .slice none 0 0, .bool false, .int .i64 0, .int .i64 0] 181)) (w.heap.size + 1) 181 [.slice none 0 0, .int .i64 0, .int .i64 0, .slice none 0 0, .int .i64 0, .string ⟨#[]⟩, .slice none 0 0, .bool false, .int .i64 0, .int .i64 0] := heap_alloc2_new w _ _
  have HZ : Hid (((w.alloc (.cells #[.int .i64 p.args, .int .i64 p.regs, .int .i64 p.data, .int .i64 p.slots, .slice (some ⟨bb, boff, none⟩) bn bc] 25)).alloc (.cells #[.slice none 0 0, .int .i64 0, .int .i64 0, .slice none 0 0, .int .i64 0, .string ⟨#[]⟩, .slice none 0 0, .bool false, .int .i64 0, .int .i64 0] 181)).heap.size = w.heap.size + 2) := by show _ = _; simp
  have q1 := fun P' => cBegin_cps p.args p.regs p.data p.slots (.slice (some ⟨bb, boff, none⟩) bn bc) ⟨_, _, _, rfl⟩ n hn (by omega) (by omega) ((w.alloc (.cells #[.int .i64 p.args, .int .i64 p.regs, .int .i64 p.data, .int .i64 p.slots, .slice (some ⟨bb, boff, none⟩) bn bc] 25)).alloc (.cells #[.slice none 0 0, .int .i64 0, .int .i64 0, .slice none 0 0, .int .i64 0, .string ⟨#[]⟩, .slice none 0 0, .bool false, .int .i64 0, .int .i64 0] 181)) (ht.keep hb0) P'
  have HRO := Lib.hid ro
  have HRG := Lib.hid rg
  have HB0 := Lib.hid hb0
  have HT := Lib.hid ht
  have HP1 := Lib.hid hbig
  have HP2 := Lib.hid hok
  have HR := Lib.hid hrd
  have HOPS := Lib.hid hro
  have HN := Lib.hid hn
  have Hn1 : n ≤ 200 := by omega
  have Hn2 : p.regs ≤ n := by omega
  unfold progV
  clear hbig hok ro rg hb0 ht hrd hn hro
  go_enter Tryz.func132, Tryz.ntmps132
  go_wp2_with fail
  refine q1 _ ?_
  intro P cap w1 hP hP' hpl b1 hz1
  have hzz := HZ.out
  have hX : Below w1.heap.size w1 (w1.alloc (.cells #[.slice (some ⟨P, 0, none⟩) n cap, .int .i64 0, .int .i64 0, .slice none 0 0, .int .i64 1, .string ⟨#[109]⟩, .slice none 0 0, .bool false, .int .i64 p.regs, .int .i64 p.data] 181)) := (Below.refl _ _).alloc (Nat.le_refl _) _
  have hzX : w1.heap.size + 1 ≤ (w1.alloc (.cells #[.slice (some ⟨P, 0, none⟩) n cap, .int .i64 0, .int .i64 0, .slice none 0 0, .int .i64 1, .string ⟨#[109]⟩, .slice none 0 0, .bool false, .int .i64 p.regs, .int .i64 p.data] 181)).heap.size := by simp
  have U1 : StU (w.heap.size + 2) (w1.heap.size + 1) (w1.alloc (.cells #[.slice (some ⟨P, 0, none⟩) n cap, .int .i64 0, .int .i64 0, .slice none 0 0, .int .i64 1, .string ⟨#[109]⟩, .slice none 0 0, .bool false, .int .i64 p.regs, .int .i64 p.data] 181)) w1.heap.size P cap n (fun i => .leaf 102 i) (fun _ => .slice none 0 0) (.leaf 103 0) (.slice none 0 0) [] (.slice none 0 0) false p.regs p.data := by
    refine ⟨?_, ⟨hpl.keep hX, fun i hi => ⟨rfl, hzX⟩, ⟨rfl, hzX⟩, World.ownsRow_nil _ _ _ _, by rw [hzz] at hP; exact hP, by omega⟩, by rw [hzz] at hz1; omega, by omega, by omega⟩
    have := heap_alloc_new w1 (.cells #[.slice (some ⟨P, 0, none⟩) n cap, .int .i64 0, .int .i64 0, .slice none 0 0, .int .i64 1, .string ⟨#[109]⟩, .slice none 0 0, .bool false, .int .i64 p.regs, .int .i64 p.data] 181)
    exact this
  have hBX : Below (w.heap.size + 2) ((w.alloc (.cells #[.int .i64 p.args, .int .i64 p.regs, .int .i64 p.data, .int .i64 p.slots, .slice (some ⟨bb, boff, none⟩) bn bc] 25)).alloc (.cells #[.slice none 0 0, .int .i64 0, .int .i64 0, .slice none 0 0, .int .i64 0, .string ⟨#[]⟩, .slice none 0 0, .bool false, .int .i64 0, .int .i64 0] 181)) (w1.alloc (.cells #[.slice (some ⟨P, 0, none⟩) n cap, .int .i64 0, .int .i64 0, .slice none 0 0, .int .i64 1, .string ⟨#[109]⟩, .slice none 0 0, .bool false, .int .i64 p.regs, .int .i64 p.data] 181)) := by
    rw [hzz] at b1
    exact b1.trans (hX.mono (by rw [hzz] at hz1; omega))
  have H0 : StAt (w.heap.size + 2) (w1.heap.size + 1) (w1.alloc (.cells #[.slice (some ⟨P, 0, none⟩) n cap, .int .i64 0, .int .i64 0, .slice none 0 0, .int .i64 1, .string ⟨#[109]⟩, .slice none 0 0, .bool false, .int .i64 p.regs, .int .i64 p.data] 181)) w1.heap.size P cap n (pairT (qs.take 0)) (.leaf 103 0) [] false p.regs p.data := U1.at.congr (fun i _ => by simp [pairT]) rfl rfl rfl
  have HH0 := Lib.hid H0
  have HBX := Lib.hid hBX
  clear q1 hpl b1 hX hzX U1 H0 hBX hz1 hzz hP hP'
  go_wp2
  generalize w1.heap.size + 1 = Lo at *
  generalize w1.heap.size = M at *
  go_loopw [8] (fun i wr => ∃ (k : Nat), k ≤ qs.length ∧ i = .int .i64 k ∧ StAt (w.heap.size + 2) Lo wr M P cap n (pairT (qs.take k)) (.leaf 103 0) [] false p.regs p.data ∧ Below (w.heap.size + 2) ((w.alloc (.cells #[.int .i64 p.args, .int .i64 p.regs, .int .i64 p.data, .int .i64 p.slots, .slice (some ⟨bb, boff, none⟩) bn bc] 25)).alloc (.cells #[.slice none 0 0, .int .i64 0, .int .i64 0, .slice none 0 0, .int .i64 0, .string ⟨#[]⟩, .slice none 0 0, .bool false, .int .i64 0, .int .i64 0] 181)) wr)
    (fun i _ => qs.length - (intOf i).toNat)
  case atStart => exact ⟨0, Nat.zero_le _, rfl, HH0.out, HBX.out⟩
  case round =>
    clear HH0 HBX
    obtain ⟨k, hk, rfl, hst, hB⟩ := hrel
    have hzz := HZ.out
    have ro := HRO.out.below hB (by omega)
    have x1 := ro.cell (i := 1) rfl
    have hBw : Below w.heap.size w wr := HB0.out.trans (hB.mono (by omega))
    by_cases hlt : k < qs.length
    · obtain ⟨ps, pc, mv, U⟩ := hst
      have d0 : Below wr.heap.size wr wr.drew := (Below.refl _ _).drew
      have nM : M ≠ P := Ne.symm U.ne
      have m0 := fun V (h : Keep (fun g => g = P) wr V) => h.cell nM (U.row.cell (i := 0) rfl)
      have k0 : Keep (fun g => g = P) wr wr.drew := (Keep.refl _ _).below d0 (Nat.le_refl _)
      obtain ⟨hqx1, hqx2, hqx3, hqx4⟩ := hqp (qs.getD k pz) (getD_mem' hlt)
      obtain ⟨e, he⟩ := Int.eq_ofNat_of_zero_le hqx3
      have he' : pplace qs k = (e : Int) := he
      obtain ⟨qb, qoff, hqo, g0, g1⟩ := hqc k hlt
      subst hqo
      have hqi : (0 : Int) ≤ (k : Int) := by omega
      have hqj : (k : Int) < (qs.length : Int) := by omega
      have ha : e < n := by have h4 : (qs.getD k pz).place < p.regs + p.slots := hqx4; rw [he] at h4; have := HN.out; omega
      have hBq := hBw
      have g0' := fun V (h : Keep (fun g => g = P) wr V) => h.cell (b := qb) (o := qoff + k * 2) (by have := U.b.hP; have := cell_lt g0; omega) (cell_keep hBq g0)
      have g1' := fun V (h : Keep (fun g => g = P) wr V) => h.cell (b := qb) (o := qoff + k * 2 + 1) (by have := U.b.hP; have := cell_lt g0; omega) (cell_keep hBq g1)
      rw [he'] at g1'
      have hw : W64 (preg qs k) := by
        have h1 : 0 ≤ preg qs k := hqx1
        have h2 : preg qs k ≤ 1000 := hqx2
        constructor <;> omega
      have hstep := Lib.hid (fun i : Nat => pair_step hlt he' (fun j hj => hqd j k hj hlt) i)
      clear hqx1 hqx2 hqx3 hqx4 he he' g0 g1
      have hai : (0 : Int) ≤ (e : Int) := by omega
      have haj : (e : Int) < (n : Int) := by omega
      have q2 := cOfRegister_any (preg qs k) hw wr.drew (HT.out.keep (hBw.trans (d0.mono hBw.size)))
      unfold termV at q2
      have HU := Lib.hid U
      have HBr := Lib.hid hB
      have hreg : (k : Int) < p.regs ∨ True := .inr trivial
      clear U ro hB hBw hreg
      go_wp2
      go_region_held3 (fun V => Keep (fun g => g = P) wr V) (first | with_reducible exact k0 | with_reducible exact k2 | with_reducible exact k3) (first | (go_at_call 162; refine q2.mono ?_; rintro er w2 ⟨rfl, b2⟩; have b3 : Below wr.heap.size wr w2 := d0.trans (b2.mono d0.size); have k2 : Keep (fun g => g = P) wr w2 := (Keep.refl _ _).below b3 (Nat.le_refl _); have U2 := HU.out.next b3; have p2 : PartsAt Lo w2 (.leaf 101 (preg qs k)) (.slice none 0 0) := ⟨rfl, U2.b.pc.lo⟩; have U5 := U2.place ha p2; have HM5 := ((Mv.of b3 HU.out.le : Mv (w.heap.size + 2) Lo wr w2)).putT U2.b.hP U2.b.hP' (e * 5) (.leaf 101 (preg qs k)) (.slice none 0 0); have HU5 := Lib.hid (And.intro U5.at HM5.low); unfold putT put5 at HU5; have k3 := ((((k2.setCell (p := ⟨P, e * 5, none⟩) (.inl rfl) (.int .i64 (ckind (.leaf 101 (preg qs k))))).setCell (p := ⟨P, e * 5 + 1, none⟩) (.inl rfl) (.int .i64 (cval (.leaf 101 (preg qs k))))).setCell (p := ⟨P, e * 5 + 2, none⟩) (.inl rfl) (.slice none 0 0)).setCell (p := ⟨P, e * 5 + 3, none⟩) (.inl rfl) (.int .i64 (TD.size (.leaf 101 (preg qs k))))).setCell (p := ⟨P, e * 5 + 4, none⟩) (.inl rfl) (.string (str (showT (.leaf 101 (preg qs k))))); have h0 := U2.b.pl.frozen (e * 5); have h1 := U2.b.pl.frozen (e * 5 + 1); have h2 := U2.b.pl.frozen (e * 5 + 2); have h3 := U2.b.pl.frozen (e * 5 + 3); have h4 := U2.b.pl.frozen (e * 5 + 4); have s0 := U2.b.pl.cell (j := 0) ha rfl; have s1 := U2.b.pl.cell (j := 1) ha rfl; have s2 := U2.b.pl.cell (j := 2) ha rfl; have s3 := U2.b.pl.cell (j := 3) ha rfl; have s4 := U2.b.pl.cell (j := 4) ha rfl; rw [Nat.add_zero] at s0; obtain ⟨qo', qn', qc', hpq⟩ := (U2.b.parts e ha).slice; rw [hpq] at s2; clear hpq U5 HM5))
      go_wp2
      have h9 := HU5.out.1.congr (g := (pairT (qs.take (k + 1)))) (fun i _ => hstep.out i) rfl rfl rfl
      have b9 := HBr.out.trans HU5.out.2
      clear HU5 HU HBr U2 k0 k2 k3 b2 b3 q2
      go_roundw
      case rel => exact ⟨k + 1, by omega, by go_num, h9, b9⟩
      case measure => simp [intOf]; omega
    · obtain rfl : k = qs.length := by omega
      have hend : ¬ (((qs.length : Nat) : Int) < (qs.length : Int)) := by omega
      have x4 := ro.cell (i := 4) rfl
      have e0 := cell_keep hBw y0
      have hbi : (0 : Int) ≤ (b : Int) := by omega
      have hbj : (b : Int) < (bn : Int) := by have := HBN.out; omega
      have hst2 : StAt (w.heap.size + 2) Lo wr M P cap n (fun i : Nat => firstT (namesOf qs n) (i : Int)) (firstT (namesOf qs n) (n : Int)) [] false p.regs p.data := hst.congr (fun i hi => by rw [List.take_length]; exact pair_first (fun x hx => (hqp x hx).1) hi) (by rw [first_end (names_length qs n)]) rfl rfl
      have q3 := fun P' => cDoAll_cps hst2 HN.out (by omega) (by omega) (names_small (fun x hx => (hqp x hx).2.1) n) (bops p.blocks b) h12 hops sv (fun V hv => HOPS.out.keep (hBw.trans (hv.mono (by omega)))) (fun V hv => HT.out.keep (hBw.trans (hv.mono (by omega)))) P'
      obtain ⟨so, sn, sc, rfl⟩ : ∃ so sn sc, sv = .slice so sn sc := let ⟨so, sc, e, _⟩ := HOPS.out; ⟨so, _, sc, e⟩
      clear hst hst2 ro hBw
      go_wp2_with fail
      refine q3 _ ?_ ?_
      · intro hbg w3 f3 c3' ms3 h3 m3
        obtain ⟨ps3, pc3, mv3, U3⟩ := h3
        obtain ⟨c3, hc3⟩ : ∃ c3, c3 = c3' := ⟨_, rfl⟩
        rw [← hc3] at U3
        obtain ⟨co, cn, cc, rfl⟩ := U3.b.pc.slice
        obtain ⟨mo, mc, hmv⟩ := owns_slice U3.b.mrk
        subst hmv
        obtain ⟨mn, hmn⟩ : ∃ mn, mn = (ms3).length := ⟨_, rfl⟩
        rw [← hmn] at U3
        have b3 : Below (w.heap.size + 2) ((w.alloc (.cells #[.int .i64 p.args, .int .i64 p.regs, .int .i64 p.data, .int .i64 p.slots, .slice (some ⟨bb, boff, none⟩) bn bc] 25)).alloc (.cells #[.slice none 0 0, .int .i64 0, .int .i64 0, .slice none 0 0, .int .i64 0, .string ⟨#[]⟩, .slice none 0 0, .bool false, .int .i64 0, .int .i64 0] 181)) w3 := hB.trans m3.low
        have rg3 := HRG.out.below b3 (by omega)
        have hS := U3.b.set10 (g := w.heap.size + 1) (by omega) (.slice (some ⟨P, 0, none⟩) n cap) (.int .i64 (ckind c3)) (.int .i64 (cval c3)) (.slice co cn cc) (.int .i64 c3.size) (.string (str (showT c3))) (.slice mo mn mc) (.bool true) (.int .i64 p.regs) (.int .i64 p.data)
        have hb3 : Below w.heap.size w (set10 w3 (w.heap.size + 1) (.slice (some ⟨P, 0, none⟩) n cap) (.int .i64 (ckind c3)) (.int .i64 (cval c3)) (.slice co cn cc) (.int .i64 c3.size) (.string (str (showT c3))) (.slice mo mn mc) (.bool true) (.int .i64 p.regs) (.int .i64 p.data)) := by
          have k3 : Keep (fun g => g = w.heap.size + 1) w3 (set10 w3 (w.heap.size + 1) (.slice (some ⟨P, 0, none⟩) n cap) (.int .i64 (ckind c3)) (.int .i64 (cval c3)) (.slice co cn cc) (.int .i64 c3.size) (.string (str (showT c3))) (.slice mo mn mc) (.bool true) (.int .i64 p.regs) (.int .i64 p.data)) := (Keep.refl (fun g => g = w.heap.size + 1) w3).set10 (g := w.heap.size + 1) rfl _ _ _ _ _ _ _ _ _ _
          exact (HB0.out.trans (b3.mono (by omega))).trans (k3.toBelow (by have := b3.size; have := HZ.out; omega) (fun g e => by omega))
        have hv : StV w (set10 w3 (w.heap.size + 1) (.slice (some ⟨P, 0, none⟩) n cap) (.int .i64 (ckind c3)) (.int .i64 (cval c3)) (.slice co cn cc) (.int .i64 c3.size) (.string (str (showT c3))) (.slice mo mn mc) (.bool true) (.int .i64 p.regs) (.int .i64 p.data)) (stV P n cap c3 (.slice co cn cc) (.slice mo mn mc) true p.regs p.data) n f3 c3 (ms3) true p.regs p.data := ⟨w.heap.size + 2, Lo, P, cap, ps3, .slice co cn cc, .slice mo mn mc, by omega, rfl, hS⟩
        rw [hc3] at hv
        have HF := Lib.hid (HP1.out hbg _ _ f3 c3' ms3 hv (by rw [hc3] at hb3; exact hb3))
        rw [← hc3] at HF
        clear hv
        unfold stV set10 at HF
        have mm0 := U3.row.cell (i := 0) rfl
        have z0 := rg3.cell (i := 0) rfl
        have f0 := rg3.frozen 0
        have mm1 := U3.row.cell (i := 1) rfl
        have z1 := rg3.cell (i := 1) rfl
        have f1 := rg3.frozen 1
        have mm2 := U3.row.cell (i := 2) rfl
        have z2 := rg3.cell (i := 2) rfl
        have f2 := rg3.frozen 2
        have mm3 := U3.row.cell (i := 3) rfl
        have z3 := rg3.cell (i := 3) rfl
        have f3 := rg3.frozen 3
        have mm4 := U3.row.cell (i := 4) rfl
        have z4 := rg3.cell (i := 4) rfl
        have f4 := rg3.frozen 4
        have mm5 := U3.row.cell (i := 5) rfl
        have z5 := rg3.cell (i := 5) rfl
        have f5 := rg3.frozen 5
        have mm6 := U3.row.cell (i := 6) rfl
        have z6 := rg3.cell (i := 6) rfl
        have f6 := rg3.frozen 6
        have mm7 := U3.row.cell (i := 7) rfl
        have z7 := rg3.cell (i := 7) rfl
        have f7 := rg3.frozen 7
        have mm8 := U3.row.cell (i := 8) rfl
        have z8 := rg3.cell (i := 8) rfl
        have f8 := rg3.frozen 8
        have mm9 := U3.row.cell (i := 9) rfl
        have z9 := rg3.cell (i := 9) rfl
        have f9 := rg3.frozen 9
        clear hS hb3 U3 rg3 b3 m3 hc3 hmn HRO HRG HB0 HP1 HP2
        go_wp2
        (try simp only [Exit.inBlock, Exit.then])
        refine bodyPost_ret (v := .agg #[.slice (some ⟨P, 0, none⟩) n cap, .int .i64 (ckind c3), .int .i64 (cval c3), .slice co cn cc, .int .i64 c3.size, .string (str (showT c3)), .slice mo mn mc, .bool true, .int .i64 p.regs, .int .i64 p.data]) ?_ rfl ?_
        · simp [results, Tryz.results132, go_sem, z0, z1, z2, z3, z4, z5, z6, z7, z8, z9]
        · exact HF.out
      · intro hbg w3 h3 m3
        obtain ⟨ps3, pc3, mv3, U3⟩ := h3
        obtain ⟨c3, hc3⟩ : ∃ c3, c3 = behindT p.regs p.slots (namesOf qs n) (bops p.blocks b) (bops p.blocks b).length (n : Int) := ⟨_, rfl⟩
        rw [← hc3] at U3
        obtain ⟨co, cn, cc, rfl⟩ := U3.b.pc.slice
        obtain ⟨mo, mc, hmv⟩ := owns_slice U3.b.mrk
        subst hmv
        obtain ⟨mn, hmn⟩ : ∃ mn, mn = (marksT p.regs p.slots p.data (namesOf qs n) (bops p.blocks b) (bops p.blocks b).length).length := ⟨_, rfl⟩
        rw [← hmn] at U3
        have b3 : Below (w.heap.size + 2) ((w.alloc (.cells #[.int .i64 p.args, .int .i64 p.regs, .int .i64 p.data, .int .i64 p.slots, .slice (some ⟨bb, boff, none⟩) bn bc] 25)).alloc (.cells #[.slice none 0 0, .int .i64 0, .int .i64 0, .slice none 0 0, .int .i64 0, .string ⟨#[]⟩, .slice none 0 0, .bool false, .int .i64 0, .int .i64 0] 181)) w3 := hB.trans m3.low
        have rg3 := HRG.out.below b3 (by omega)
        have hS := U3.b.set10 (g := w.heap.size + 1) (by omega) (.slice (some ⟨P, 0, none⟩) n cap) (.int .i64 (ckind c3)) (.int .i64 (cval c3)) (.slice co cn cc) (.int .i64 c3.size) (.string (str (showT c3))) (.slice mo mn mc) (.bool false) (.int .i64 p.regs) (.int .i64 p.data)
        have hb3 : Below w.heap.size w (set10 w3 (w.heap.size + 1) (.slice (some ⟨P, 0, none⟩) n cap) (.int .i64 (ckind c3)) (.int .i64 (cval c3)) (.slice co cn cc) (.int .i64 c3.size) (.string (str (showT c3))) (.slice mo mn mc) (.bool false) (.int .i64 p.regs) (.int .i64 p.data)) := by
          have k3 : Keep (fun g => g = w.heap.size + 1) w3 (set10 w3 (w.heap.size + 1) (.slice (some ⟨P, 0, none⟩) n cap) (.int .i64 (ckind c3)) (.int .i64 (cval c3)) (.slice co cn cc) (.int .i64 c3.size) (.string (str (showT c3))) (.slice mo mn mc) (.bool false) (.int .i64 p.regs) (.int .i64 p.data)) := (Keep.refl (fun g => g = w.heap.size + 1) w3).set10 (g := w.heap.size + 1) rfl _ _ _ _ _ _ _ _ _ _
          exact (HB0.out.trans (b3.mono (by omega))).trans (k3.toBelow (by have := b3.size; have := HZ.out; omega) (fun g e => by omega))
        have hv : StV w (set10 w3 (w.heap.size + 1) (.slice (some ⟨P, 0, none⟩) n cap) (.int .i64 (ckind c3)) (.int .i64 (cval c3)) (.slice co cn cc) (.int .i64 c3.size) (.string (str (showT c3))) (.slice mo mn mc) (.bool false) (.int .i64 p.regs) (.int .i64 p.data)) (stV P n cap c3 (.slice co cn cc) (.slice mo mn mc) false p.regs p.data) n (fun i : Nat => behindT p.regs p.slots (namesOf qs n) (bops p.blocks b) (bops p.blocks b).length (i : Int)) c3 (marksT p.regs p.slots p.data (namesOf qs n) (bops p.blocks b) (bops p.blocks b).length) false p.regs p.data := ⟨w.heap.size + 2, Lo, P, cap, ps3, .slice co cn cc, .slice mo mn mc, by omega, rfl, hS⟩
        rw [hc3] at hv
        have HF := Lib.hid (HP2.out hbg _ _ hv (by rw [hc3] at hb3; exact hb3))
        rw [← hc3] at HF
        clear hv
        unfold stV set10 at HF
        have mm0 := U3.row.cell (i := 0) rfl
        have z0 := rg3.cell (i := 0) rfl
        have f0 := rg3.frozen 0
        have mm1 := U3.row.cell (i := 1) rfl
        have z1 := rg3.cell (i := 1) rfl
        have f1 := rg3.frozen 1
        have mm2 := U3.row.cell (i := 2) rfl
        have z2 := rg3.cell (i := 2) rfl
        have f2 := rg3.frozen 2
        have mm3 := U3.row.cell (i := 3) rfl
        have z3 := rg3.cell (i := 3) rfl
        have f3 := rg3.frozen 3
        have mm4 := U3.row.cell (i := 4) rfl
        have z4 := rg3.cell (i := 4) rfl
        have f4 := rg3.frozen 4
        have mm5 := U3.row.cell (i := 5) rfl
        have z5 := rg3.cell (i := 5) rfl
        have f5 := rg3.frozen 5
        have mm6 := U3.row.cell (i := 6) rfl
        have z6 := rg3.cell (i := 6) rfl
        have f6 := rg3.frozen 6
        have mm7 := U3.row.cell (i := 7) rfl
        have z7 := rg3.cell (i := 7) rfl
        have f7 := rg3.frozen 7
        have mm8 := U3.row.cell (i := 8) rfl
        have z8 := rg3.cell (i := 8) rfl
        have f8 := rg3.frozen 8
        have mm9 := U3.row.cell (i := 9) rfl
        have z9 := rg3.cell (i := 9) rfl
        have f9 := rg3.frozen 9
        clear hS hb3 U3 rg3 b3 m3 hc3 hmn HRO HRG HB0 HP1 HP2
        go_wp2
        (try simp only [Exit.inBlock, Exit.then])
        refine bodyPost_ret (v := .agg #[.slice (some ⟨P, 0, none⟩) n cap, .int .i64 (ckind c3), .int .i64 (cval c3), .slice co cn cc, .int .i64 c3.size, .string (str (showT c3)), .slice mo mn mc, .bool false, .int .i64 p.regs, .int .i64 p.data]) ?_ rfl ?_
        · simp [results, Tryz.results132, go_sem, z0, z1, z2, z3, z4, z5, z6, z7, z8, z9]
        · exact HF.out


end Go.Proofs.YtblhmeidbjigaabGreatDoor
