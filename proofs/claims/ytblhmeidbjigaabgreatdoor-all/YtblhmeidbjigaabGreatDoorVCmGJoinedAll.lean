/- Package compare: compareBlock. -/
import Derived.Test.YtblhmeidbjigaabGreatDoorRows
import Derived.WalkKit
import Derived.WalkSpells
import Derived.WalkLawsBesides
import Derived.Laws.BytesArg
import Derived.Deep.QuietTactic
import Derived.BigQuiet
import Derived.Deep.RegionHeld3
import Derived.Lib.ItoaNum
import Derived.Lib.ItoaLen
import Derived.OpenShut
import Derived.Maps.AppendAt
import Derived.Shelf.Strconv.Itoa3
import Derived.Shelf.Lay
import Derived.Ground.NamesProg
import Derived.Lib.SmallJoins
import Derived.Lib.Hide
import Derived.StillTailTactics
import Derived.Test.YtblhmeidbjigaabGreatDoorVCmEToVPurAll

set_option linter.unusedSimpArgs false
set_option linter.unusedVariables false
namespace Go.Proofs.YtblhmeidbjigaabGreatDoor
open Go.RowKit

/-- What compareBlock holds beside each other. -/
structure CmpW (w W : World) (O F S1 S2 : Nat) (cc fc s1 s2 : List Value) (P1 n1 P2 n2 : Nat) (was1 was2 : Int → TD) : Prop where
  ro : Row W O 120 cc
  rf : Row W F 33 fc
  r1 : Row W S1 181 s1
  r2 : Row W S2 181 s2
  t1 : Tms W P1 n1 was1
  t2 : Tms W P2 n2 was2
  low : Below w.heap.size w W

theorem CmpW.next {w W W' : World} {O F S1 S2 : Nat} {cc fc s1 s2 : List Value} {P1 n1 P2 n2 : Nat} {was1 was2 : Int → TD} (h : CmpW w W O F S1 S2 cc fc s1 s2 P1 n1 P2 n2 was1 was2) (hb : Below W.heap.size W W') : CmpW w W' O F S1 S2 cc fc s1 s2 P1 n1 P2 n2 was1 was2 :=
  ⟨h.ro.keep hb, h.rf.keep hb, h.r1.keep hb, h.r2.keep hb, h.t1.keep hb, h.t2.keep hb, h.low.trans (hb.mono h.low.size)⟩

theorem StB.tms {B Lo : Nat} {w : World} {P n : Nat} {f : Nat → TD} {ps : Nat → Value} {c : TD} {pc : Value} {ms : List (List UInt8)} {mv : Value} (h : StB B Lo w P n f ps c pc ms mv) {was : Int → TD} (hf : ∀ i, i < n → f i = was (i : Int)) : Tms w P n was :=
  ⟨f, ps, h.pl, hf, fun i hi => let ⟨o, a, c, e⟩ := (h.parts i hi).slice; ⟨o, a, c, e⟩⟩

theorem sevn_on {w : World} {g : Nat} {ty : TypeId} {x0 x1 x2 x3 x4 x5 x6 : Value} (hr : Row w g ty [x0, x1, x2, x3, x4, x5, x6]) (a b c d e f i : Value) : Row (sevn w g a b c d e f i) g ty [a, b, c, d, e, f, i] :=
  ((((((hr.set 0 a).set 1 b).set 2 c).set 3 d).set 4 e).set 5 f).set 6 i

theorem words_sevn {w : World} {v : Value} {l : List Int} (h : RdWords w v l) {g : Nat} (hg : ∀ o n c, v = .slice (some o) n c → o.block ≠ g) (a b c d e f i : Value) : RdWords (sevn w g a b c d e f i) v l := by
  obtain ⟨ao, cap, rfl, hl, hc⟩ := h
  refine ⟨ao, cap, rfl, hl, fun j hj => ?_⟩
  obtain ⟨bb, off, e, h1⟩ := hc j hj
  subst e
  exact ⟨bb, off, rfl, cell_sevn (hg _ _ _ rfl) h1 _ _ _ _ _ _ _⟩

theorem cBlock_one (p : ProgD) (pv : Value) (b : Nat) (n : Nat) (hn : (n : Int) = p.regs + p.slots) (hg : progGood p = true) (hb : b < p.blocks.length) (w : World) (hrd : RdBlocks w pv p.blocks) (ht : TabW w) (Post : Ending → World → Prop)
    (hp : ∀ v w' f c ms big, StV w w' v n f c ms big p.regs p.data → big = bigT p.regs p.slots (plainNames p.regs p.slots) (bops p.blocks b) →
      (big = false → (f = fun i : Nat => behindT p.regs p.slots (plainNames p.regs p.slots) (bops p.blocks b) (bops p.blocks b).length (i : Int)) ∧ c = behindT p.regs p.slots (plainNames p.regs p.slots) (bops p.blocks b) (bops p.blocks b).length (n : Int) ∧ ms = marksT p.regs p.slots p.data (plainNames p.regs p.slots) (bops p.blocks b) (bops p.blocks b).length) →
      Below w.heap.size w w' → Post (.returned v) w') : Calls Tryz.prog 131 #[progV p pv, .int .i64 b] w Post :=
  cBlock_cps p pv b n hn hg hb w hrd ht Post (fun h v w' f c ms hv hb' => hp v w' f c ms true hv h.symm (fun q => by cases q) hb') (fun h v w' hv hb' => hp v w' _ _ _ false hv h.symm (fun _ => ⟨rfl, rfl, rfl⟩) hb')

theorem cPaired_one (p : ProgD) (pv : Value) (b : Nat) (n : Nat) (hn : (n : Int) = p.regs + p.slots) (hg : progGood p = true) (hb : b < p.blocks.length) (w : World) (qs : List PairD) (qv : Value) (hqd : ∀ j k, j < k → k < qs.length → pplace qs j ≠ pplace qs k) (hqp : ∀ x ∈ qs, 0 ≤ x.reg ∧ x.reg ≤ 1000 ∧ 0 ≤ x.place ∧ x.place < p.regs + p.slots) (hqr : RdPairs w qv qs) (hrd : RdBlocks w pv p.blocks) (ht : TabW w) (Post : Ending → World → Prop)
    (hp : ∀ v w' f c ms big, StV w w' v n f c ms big p.regs p.data → big = bigT p.regs p.slots (namesOf qs n) (bops p.blocks b) →
      (big = false → (f = fun i : Nat => behindT p.regs p.slots (namesOf qs n) (bops p.blocks b) (bops p.blocks b).length (i : Int)) ∧ c = behindT p.regs p.slots (namesOf qs n) (bops p.blocks b) (bops p.blocks b).length (n : Int) ∧ ms = marksT p.regs p.slots p.data (namesOf qs n) (bops p.blocks b) (bops p.blocks b).length) →
      Below w.heap.size w w' → Post (.returned v) w') : Calls Tryz.prog 132 #[progV p pv, .int .i64 b, qv] w Post :=
  cPaired_cps p pv b n hn hg hb w qs qv hqd hqp hqr hrd ht Post (fun h v w' f c ms hv hb' => hp v w' f c ms true hv h.symm (fun q => by cases q) hb') (fun h v w' hv hb' => hp v w' _ _ _ false hv h.symm (fun _ => ⟨rfl, rfl, rfl⟩) hb')

theorem goodPairs_asc : ∀ {l : List PairD} {last : Int}, goodPairs last l = true → (∀ k, k < l.length → last < pplace l k) ∧ ∀ j k, j < k → k < l.length → pplace l j < pplace l k
  | [], last, _ => ⟨fun k hk => by simp at hk, fun j k _ hk => by simp at hk⟩
  | y :: l, last, h => by
    simp only [goodPairs, Bool.and_eq_true, below, decide_eq_true_eq] at h
    obtain ⟨ih1, ih2⟩ := goodPairs_asc h.2
    have key : last < y.place := by omega
    constructor
    · intro k hk
      cases k with
      | zero => exact key
      | succ k =>
        have := ih1 k (by simpa using hk)
        show last < pplace l k
        omega
    · intro j k hjk hk
      cases k with
      | zero => omega
      | succ k =>
        cases j with
        | zero => exact ih1 k (by simpa using hk)
        | succ j => exact ih2 j k (by omega) (by simpa using hk)

theorem hint_apart {h : List PingD} (g : goodHint h = true) {b : Nat} (hb : b < h.length) : ∀ j k, j < k → k < (hpairs h b).length → pplace (hpairs h b) j ≠ pplace (hpairs h b) k := by
  simp only [goodHint, goodPings, Bool.and_eq_true, decide_eq_true_eq, List.all_eq_true] at g
  have hm : h.getD b hz ∈ h := by simp [List.getD, hb]
  have := g.2 _ hm
  simp only [goodPing, Bool.and_eq_true, below, decide_eq_true_eq] at this
  intro j k h1 h2 e
  have := (goodPairs_asc this.2).2 j k h1 h2
  have e' : pplace (hpairs h b) j = pplace (hpairs h b) k := e
  have t' : pplace (hpairs h b) j < pplace (hpairs h b) k := this
  omega

theorem hint_at {w : World} {ho : Option Addr} {hc : Nat} {h : List PingD} (hr : RdHint w (.slice ho h.length hc) h) {b : Nat} (hb : b < h.length) :
    ∃ g off sv, ho = some ⟨g, off, none⟩ ∧ w.cell? ⟨g, off + b * 2, none⟩ = some (.int .i64 (hsrc h b)) ∧ w.cell? ⟨g, off + b * 2 + 1, none⟩ = some sv ∧ RdPairs w sv (hpairs h b) := by
  obtain ⟨ho', hc', e0, hl0, hh⟩ := hr
  simp only [Value.slice.injEq, true_and] at e0
  obtain ⟨rfl, rfl⟩ := e0
  exact hh b hb

theorem blocks_at {w : World} {po : Option Addr} {pn pc : Nat} {l : List BlockD} (hr : RdBlocks w (.slice po pn pc) l) {b : Nat} (hb : b < l.length) (hn : pn = l.length) :
    ∃ g off sv, po = some ⟨g, off, none⟩ ∧ w.cell? ⟨g, off + b * 5, none⟩ = some sv ∧ w.cell? ⟨g, off + b * 5 + 1, none⟩ = some (.int .i64 (bek l b)) ∧ w.cell? ⟨g, off + b * 5 + 2, none⟩ = some (.int .i64 (ber l b)) ∧ w.cell? ⟨g, off + b * 5 + 3, none⟩ = some (.int .i64 (bex l b)) ∧ w.cell? ⟨g, off + b * 5 + 4, none⟩ = some (.int .i64 (bey l b)) ∧ RdOps w sv (bops l b) := by
  obtain ⟨ao, cap, e0, hl, hc⟩ := hr
  simp only [Value.slice.injEq] at e0
  obtain ⟨rfl, _, _⟩ := e0
  exact hc b hb

theorem good_end {p : ProgD} (hg : progGood p = true) {b : Nat} (hb : b < p.blocks.length) :
    ((bek p.blocks b = 1 ∨ bek p.blocks b = 2 ∨ bek p.blocks b = 3) ∧ 0 ≤ ber p.blocks b ∧ ber p.blocks b < p.regs) ∧
    ((bek p.blocks b = 1 → 0 ≤ bex p.blocks b ∧ bex p.blocks b < p.blocks.length) ∧ (bek p.blocks b = 2 → (0 ≤ bex p.blocks b ∧ bex p.blocks b < p.blocks.length) ∧ 0 ≤ bey p.blocks b ∧ bey p.blocks b < p.blocks.length)) := by
  have h1 := progGood_block hg (p.blocks.getD b bz) (getD_mem' hb)
  have hr := (good_shape hg).1
  simp only [blockGood, Bool.and_eq_true] at h1
  have h2 := h1.2
  unfold endGood at h2
  have e1 : (p.blocks.getD b bz).fin.kind = bek p.blocks b := rfl
  have e2 : (p.blocks.getD b bz).fin.r = ber p.blocks b := rfl
  have e3 : (p.blocks.getD b bz).fin.x = bex p.blocks b := rfl
  have e4 : (p.blocks.getD b bz).fin.y = bey p.blocks b := rfl
  rw [e1, e2, e3, e4] at h2
  split at h2
  · rename_i q; simp only [Bool.and_eq_true, below, decide_eq_true_eq] at h2; omega
  · split at h2
    · rename_i q; simp only [Bool.and_eq_true, below, decide_eq_true_eq] at h2; omega
    · split at h2
      · rename_i q; simp only [Bool.and_eq_true, below, decide_eq_true_eq] at h2; omega
      · cases h2

theorem exit_next (was : Int → TD) (e : EndD) {n : Int} (hk : e.kind = 1 ∨ e.kind = 2 ∨ e.kind = 3) (hx : (e.kind = 1 → 0 ≤ e.x ∧ e.x < n) ∧ (e.kind = 2 → (0 ≤ e.x ∧ e.x < n) ∧ 0 ≤ e.y ∧ e.y < n)) : ∀ d ∈ (exitD was e).next, 0 ≤ d ∧ d < n := by
  intro d hd
  unfold exitD at hd
  rcases hk with hk | hk | hk
  · rw [if_neg (by omega), if_pos hk] at hd; simp at hd; subst hd; exact hx.1 hk
  · rw [if_neg (by omega), if_neg (by omega)] at hd
    rcases Option.eq_none_or_eq_some (was e.r).isNum with hn | ⟨y, hn⟩
    · rw [hn] at hd; simp at hd
      rcases hd with rfl | rfl
      · exact (hx.2 hk).1
      · exact (hx.2 hk).2
    · rw [hn] at hd; simp only at hd
      split at hd
      · simp at hd; subst hd; exact (hx.2 hk).2
      · simp at hd; subst hd; exact (hx.2 hk).1
  · rw [if_pos hk] at hd; simp at hd

theorem bytes_same {x y : ByteArray} (h : x = y) : (x.toList == y.toList) = true := by rw [h]; simp
theorem bytes_ne {x y : ByteArray} (h : x ≠ y) : (x.toList == y.toList) = false := by
  rw [beq_eq_false_iff_ne]
  intro e
  apply h
  obtain ⟨a⟩ := x
  obtain ⟨b⟩ := y
  have e' : a.toList = b.toList := by
    have h1 : (ByteArray.mk a).toList = a.toList := by
      have := ByteArray.toList_mk a.toList
      rwa [Array.toArray_toList] at this
    have h2 : (ByteArray.mk b).toList = b.toList := by
      have := ByteArray.toList_mk b.toList
      rwa [Array.toArray_toList] at this
    rw [← h1, ← h2]; exact e
  rw [Array.toList_inj.1 e']

theorem vExitT_cps {P n : Nat} {was : Int → TD} (cap : Nat) (ck cv cs rg dt : Int) (co mo : Option Addr) (cn cc mn mc : Nat) (ct : ByteArray) (big : Bool) (e : EndD) (r : Nat) (hr : e.r = r) (hrn : r < n) (hk : e.kind = 1 ∨ e.kind = 2 ∨ e.kind = 3) (hn : n ≤ 1000) (hf : (was r).fine) (w : World) (ht : Tms w P n was) (Post : Ending → World → Prop)
    (hp : ∀ v w', ExAt w.heap.size w' v (exitD was e) → Below w.heap.size w w' → Post (.returned v) w') :
    Calls Tryz.prog 135 #[.agg #[.slice (some ⟨P, 0, none⟩) n cap, .int .i64 ck, .int .i64 cv, .slice co cn cc, .int .i64 cs, .string ct, .slice mo mn mc, .bool big, .int .i64 rg, .int .i64 dt], .agg #[.int .i64 e.kind, .int .i64 e.r, .int .i64 e.x, .int .i64 e.y]] w Post := by
  obtain ⟨f, ps, h1, h2, h3⟩ := ht.ex
  exact vExit_cps (f := f) (ps := ps) cap ck cv cs rg dt co mo cn cc mn mc ct big e r hr hrn hk hn was (h2 r hrn) hf w h1 (h3 r hrn) Post hp

set_option maxRecDepth 100000 in
set_option maxHeartbeats 8000000 in
theorem vBlock_cps (p q : ProgD) (po qo ho : Option Addr) (pc qc hc : Nat) (h : List PingD) (b : Nat) (hgp : progGood p = true) (hgq : progGood q = true) (hps : p.slots = 0) (hs : suitsD p q h) (hgh : goodHint h = true) (hb : b < q.blocks.length) (w : World)
    (hrp : RdBlocks w (.slice po p.blocks.length pc) p.blocks) (hrq : RdBlocks w (.slice qo q.blocks.length qc) q.blocks) (hrh : RdHint w (.slice ho h.length hc) h) (ht : TabW w) (Post : Ending → World → Prop)
    (hp : ∀ w', Below w.heap.size w w' → Post (.returned (.int .i64 (codeD p q h b))) w') :
    Calls Tryz.prog 102 #[.agg #[.int .i64 p.args, .int .i64 p.regs, .int .i64 p.data, .int .i64 p.slots, .slice po p.blocks.length pc, .int .i64 q.args, .int .i64 q.regs, .int .i64 q.data, .int .i64 q.slots, .slice qo q.blocks.length qc, .slice ho h.length hc], .int .i64 b] w Post := by
  obtain ⟨hpr, hpa, hpd, hpsl⟩ := good_shape hgp
  obtain ⟨hqr, hqa, hqd, hqsl⟩ := good_shape hgq
  have hbh : b < h.length := by rw [hs.1]; exact hb
  obtain ⟨hsl, hpl⟩ := hs.2 b hbh
  obtain ⟨hs0, hpos⟩ := goodHint_at hgh hbh
  obtain ⟨sb, hsb⟩ := Int.eq_ofNat_of_zero_le hs0
  have hsbl : sb < p.blocks.length := by omega
  obtain ⟨n1, hn1⟩ := Int.eq_ofNat_of_zero_le (show 0 ≤ p.regs + p.slots by omega)
  obtain ⟨n2, hn2⟩ := Int.eq_ofNat_of_zero_le (show 0 ≤ q.regs + q.slots by omega)
  obtain ⟨hgb, hoff, sv, hho, g0, g1, g2⟩ := hint_at hrh hbh
  subst hho
  obtain ⟨so, sc, hsv, _, _⟩ := id g2
  obtain ⟨sn, hsn⟩ : ∃ sn, sn = (hpairs h b).length := ⟨_, rfl⟩
  rw [← hsn] at hsv
  subst hsv
  rw [hsb] at g0
  obtain ⟨pn, hpn⟩ : ∃ pn, pn = p.blocks.length := ⟨_, rfl⟩
  obtain ⟨qn, hqn⟩ : ∃ qn, qn = q.blocks.length := ⟨_, rfl⟩
  obtain ⟨hn, hhn⟩ : ∃ hn, hn = h.length := ⟨_, rfl⟩
  rw [← hpn] at hrp ⊢
  rw [← hqn] at hrq ⊢
  rw [← hhn] at hrh ⊢
  have HPN := Lib.hid hpn
  have HQN := Lib.hid hqn
  have HHN := Lib.hid hhn
  have b0 : Below w.heap.size w (w.alloc (.cells #[.int .i64 p.args, .int .i64 p.regs, .int .i64 p.data, .int .i64 p.slots, .slice po pn pc, .int .i64 q.args, .int .i64 q.regs, .int .i64 q.data, .int .i64 q.slots, .slice qo qn qc, .slice (some ⟨hgb, hoff, none⟩) hn hc] 120)) := (Below.refl _ _).alloc (Nat.le_refl _) _
  have b1' : Below w.heap.size w ((w.alloc (.cells #[.int .i64 p.args, .int .i64 p.regs, .int .i64 p.data, .int .i64 p.slots, .slice po pn pc, .int .i64 q.args, .int .i64 q.regs, .int .i64 q.data, .int .i64 q.slots, .slice qo qn qc, .slice (some ⟨hgb, hoff, none⟩) hn hc] 120)).alloc (.cells #[.int .i64 (sb : Int), .slice so sn sc] 33)) := ((Below.refl _ _).alloc (Nat.le_refl _) _).alloc (by simp) _
  have y0 := cell_keep b0 g0
  have y1 := cell_keep b0 g1
  have ro1 : Row ((w.alloc (.cells #[.int .i64 p.args, .int .i64 p.regs, .int .i64 p.data, .int .i64 p.slots, .slice po pn pc, .int .i64 q.args, .int .i64 q.regs, .int .i64 q.data, .int .i64 q.slots, .slice qo qn qc, .slice (some ⟨hgb, hoff, none⟩) hn hc] 120)).alloc (.cells #[.int .i64 (sb : Int), .slice so sn sc] 33)) w.heap.size 120 [.int .i64 p.args, .int .i64 p.regs, .int .i64 p.data, .int .i64 p.slots, .slice po pn pc, .int .i64 q.args, .int .i64 q.regs, .int .i64 q.data, .int .i64 q.slots, .slice qo qn qc, .slice (some ⟨hgb, hoff, none⟩) hn hc] := Row.alloc (heap_alloc_new w _) _
  have rf1 : Row ((w.alloc (.cells #[.int .i64 p.args, .int .i64 p.regs, .int .i64 p.data, .int .i64 p.slots, .slice po pn pc, .int .i64 q.args, .int .i64 q.regs, .int .i64 q.data, .int .i64 q.slots, .slice qo qn qc, .slice (some ⟨hgb, hoff, none⟩) hn hc] 120)).alloc (.cells #[.int .i64 (sb : Int), .slice so sn sc] 33)) (w.heap.size + 1) 33 [.int .i64 (sb : Int), .slice so sn sc] := heap_alloc2_new w _ _
  have hbi : (0 : Int) ≤ (b : Int) := by omega
  have hbj : (b : Int) < (hn : Int) := by omega
  have q1 := fun P' => cBlock_one p (.slice po pn pc) sb n1 hn1.symm hgp hsbl ((w.alloc (.cells #[.int .i64 p.args, .int .i64 p.regs, .int .i64 p.data, .int .i64 p.slots, .slice po pn pc, .int .i64 q.args, .int .i64 q.regs, .int .i64 q.data, .int .i64 q.slots, .slice qo qn qc, .slice (some ⟨hgb, hoff, none⟩) hn hc] 120)).alloc (.cells #[.int .i64 (sb : Int), .slice so sn sc] 33)) (hrp.keep b1') (ht.keep b1') P'
  unfold progV at q1
  have HP := Lib.hid hp
  have HRP := Lib.hid hrp
  have HRQ := Lib.hid hrq
  have HRH := Lib.hid hrh
  have HT := Lib.hid ht
  have HG2 := Lib.hid g2
  have HB1 := Lib.hid b1'
  have HRO := Lib.hid ro1
  have HRF := Lib.hid rf1
  have HSB := Lib.hid hsb
  have HPS := Lib.hid hps
  have HS := Lib.hid hs
  have HN1 := Lib.hid hn1
  have HN2 := Lib.hid hn2
  clear hp hrp hrq hrh ht g0 g1 g2 b0 b1' ro1 rf1 hsb hn1 hn2 hpn hqn hhn hsn hps hs
  go_enter Tryz.func102, Tryz.ntmps102
  go_wp2_with fail
  refine q1 _ ?_
  intro v1 w1 f1 c1 ms1 big1 hv1 hbig1 hf1 bb1
  have HBG1 := Lib.hid hbig1
  have HF1 := Lib.hid hf1
  clear hbig1 hf1
  obtain ⟨B1, Lo1, P1, cap1, ps1, pc1, mv1, _, rfl, hS1⟩ := hv1
  obtain ⟨co1, cn1, cc1, rfl⟩ := hS1.pc.slice
  obtain ⟨mo1, mc1, hmv1⟩ := owns_slice hS1.mrk
  subst hmv1
  obtain ⟨mn1, hmn1⟩ : ∃ mn1, mn1 = ms1.length := ⟨_, rfl⟩
  rw [← hmn1] at hS1 ⊢
  have HMN1 := Lib.hid hmn1
  unfold stV
  have bs1 : Below w1.heap.size w1 (w1.alloc (.cells #[.slice (some ⟨P1, 0, none⟩) n1 cap1, .int .i64 (ckind c1), .int .i64 (cval c1), .slice co1 cn1 cc1, .int .i64 c1.size, .string (str (showT c1)), .slice mo1 mn1 mc1, .bool big1, .int .i64 p.regs, .int .i64 p.data] 181)) := (Below.refl _ _).alloc (Nat.le_refl _) _
  have ro2 := (HRO.out.keep bb1).alloc (.cells #[.slice (some ⟨P1, 0, none⟩) n1 cap1, .int .i64 (ckind c1), .int .i64 (cval c1), .slice co1 cn1 cc1, .int .i64 c1.size, .string (str (showT c1)), .slice mo1 mn1 mc1, .bool big1, .int .i64 p.regs, .int .i64 p.data] 181)
  have rf2 := (HRF.out.keep bb1).alloc (.cells #[.slice (some ⟨P1, 0, none⟩) n1 cap1, .int .i64 (ckind c1), .int .i64 (cval c1), .slice co1 cn1 cc1, .int .i64 c1.size, .string (str (showT c1)), .slice mo1 mn1 mc1, .bool big1, .int .i64 p.regs, .int .i64 p.data] 181)
  have low2 : Below w.heap.size w (w1.alloc (.cells #[.slice (some ⟨P1, 0, none⟩) n1 cap1, .int .i64 (ckind c1), .int .i64 (cval c1), .slice co1 cn1 cc1, .int .i64 c1.size, .string (str (showT c1)), .slice mo1 mn1 mc1, .bool big1, .int .i64 p.regs, .int .i64 p.data] 181)) := (HB1.out.trans (bb1.mono HB1.out.size)).trans (bs1.mono (HB1.out.trans (bb1.mono HB1.out.size)).size)
  have r12 : Row (w1.alloc (.cells #[.slice (some ⟨P1, 0, none⟩) n1 cap1, .int .i64 (ckind c1), .int .i64 (cval c1), .slice co1 cn1 cc1, .int .i64 c1.size, .string (str (showT c1)), .slice mo1 mn1 mc1, .bool big1, .int .i64 p.regs, .int .i64 p.data] 181)) w1.heap.size 181 [.slice (some ⟨P1, 0, none⟩) n1 cap1, .int .i64 (ckind c1), .int .i64 (cval c1), .slice co1 cn1 cc1, .int .i64 c1.size, .string (str (showT c1)), .slice mo1 mn1 mc1, .bool big1, .int .i64 p.regs, .int .i64 p.data] := heap_alloc_new w1 _
  have hS1' := hS1.next bs1
  obtain ⟨Y, hY⟩ : ∃ Y, Y = w1.alloc (.cells #[.slice (some ⟨P1, 0, none⟩) n1 cap1, .int .i64 (ckind c1), .int .i64 (cval c1), .slice co1 cn1 cc1, .int .i64 c1.size, .string (str (showT c1)), .slice mo1 mn1 mc1, .bool big1, .int .i64 p.regs, .int .i64 p.data] 181) := ⟨_, rfl⟩
  rw [← hY] at ro2 rf2 low2 r12 hS1'
  have HYE := Lib.hid hY
  have q2 := fun P' => cPaired_one q (.slice qo qn qc) b n2 HN2.out.symm hgq hb Y (hpairs h b) (.slice so sn sc) (hint_apart hgh hbh) (fun x hx => ⟨(hpos x hx).1, by have := (hpl x hx).1; omega, (hpos x hx).2, (hpl x hx).2⟩) (HG2.out.keep low2) (HRQ.out.keep low2) (HT.out.keep low2) P'
  unfold progV at q2
  have HS1 := Lib.hid hS1'
  have HLOW := Lib.hid low2
  have HRO2 := Lib.hid ro2
  have HRF2 := Lib.hid rf2
  have HR12 := Lib.hid r12
  have x0 := fun o => ((HRO.out.keep bb1).alloc o).cell (i := 5) rfl
  have x1 := fun o => ((HRO.out.keep bb1).alloc o).cell (i := 6) rfl
  have x2 := fun o => ((HRO.out.keep bb1).alloc o).cell (i := 7) rfl
  have x3 := fun o => ((HRO.out.keep bb1).alloc o).cell (i := 8) rfl
  have x4 := fun o => ((HRO.out.keep bb1).alloc o).cell (i := 9) rfl
  have xf := fun o => ((HRF.out.keep bb1).alloc o).cell (i := 1) rfl
  rw [hY] at q2
  clear q1 hS1 hS1' bs1 ro2 rf2 r12 low2 hmn1 hY y0 y1 HRO HRF HB1 bb1
  go_wp2_with fail
  refine q2 _ ?_
  intro v2 w2 f2 c2 ms2 big2 hv2 hbig2 hf2 bb2
  have HBG2 := Lib.hid hbig2
  have HF2 := Lib.hid hf2
  clear hbig2 hf2
  rw [← HYE.out] at bb2
  obtain ⟨B2, Lo2, P2, cap2, ps2, pc2, mv2, _, rfl, hS2⟩ := hv2
  obtain ⟨co2, cn2, cc2, rfl⟩ := hS2.pc.slice
  obtain ⟨mo2, mc2, hmv2⟩ := owns_slice hS2.mrk
  subst hmv2
  obtain ⟨mn2, hmn2⟩ : ∃ mn2, mn2 = ms2.length := ⟨_, rfl⟩
  rw [← hmn2] at hS2 ⊢
  have HMN2 := Lib.hid hmn2
  unfold stV
  have bs2 : Below w2.heap.size w2 (w2.alloc (.cells #[.slice (some ⟨P2, 0, none⟩) n2 cap2, .int .i64 (ckind c2), .int .i64 (cval c2), .slice co2 cn2 cc2, .int .i64 c2.size, .string (str (showT c2)), .slice mo2 mn2 mc2, .bool big2, .int .i64 q.regs, .int .i64 q.data] 181)) := (Below.refl _ _).alloc (Nat.le_refl _) _
  have by2 : Below Y.heap.size Y (w2.alloc (.cells #[.slice (some ⟨P2, 0, none⟩) n2 cap2, .int .i64 (ckind c2), .int .i64 (cval c2), .slice co2 cn2 cc2, .int .i64 c2.size, .string (str (showT c2)), .slice mo2 mn2 mc2, .bool big2, .int .i64 q.regs, .int .i64 q.data] 181)) := bb2.trans (bs2.mono bb2.size)
  have r22 : Row (w2.alloc (.cells #[.slice (some ⟨P2, 0, none⟩) n2 cap2, .int .i64 (ckind c2), .int .i64 (cval c2), .slice co2 cn2 cc2, .int .i64 c2.size, .string (str (showT c2)), .slice mo2 mn2 mc2, .bool big2, .int .i64 q.regs, .int .i64 q.data] 181)) w2.heap.size 181 [.slice (some ⟨P2, 0, none⟩) n2 cap2, .int .i64 (ckind c2), .int .i64 (cval c2), .slice co2 cn2 cc2, .int .i64 c2.size, .string (str (showT c2)), .slice mo2 mn2 mc2, .bool big2, .int .i64 q.regs, .int .i64 q.data] := heap_alloc_new w2 _
  have ro3 := HRO2.out.keep by2
  have rf3 := HRF2.out.keep by2
  have r13 := HR12.out.keep by2
  have low3 := HLOW.out.trans (by2.mono HLOW.out.size)
  have hS13 := HS1.out.next by2
  have hS23 := hS2.next bs2
  have x6 := fun o => ((HR12.out.keep bb2).alloc o).cell (i := 6) rfl
  have x7 := fun o => ((HR12.out.keep bb2).alloc o).cell (i := 7) rfl
  obtain ⟨W, hW⟩ : ∃ W, W = w2.alloc (.cells #[.slice (some ⟨P2, 0, none⟩) n2 cap2, .int .i64 (ckind c2), .int .i64 (cval c2), .slice co2 cn2 cc2, .int .i64 c2.size, .string (str (showT c2)), .slice mo2 mn2 mc2, .bool big2, .int .i64 q.regs, .int .i64 q.data] 181) := ⟨_, rfl⟩
  rw [← hW] at ro3 rf3 r13 low3 hS13 hS23 r22
  have HWE := Lib.hid hW
  clear q2 hS2 bs2 by2 bb2 hmn2 x0 x1 x2 x3 x4 xf HRO2 HRF2 HR12 HS1 HLOW hW
  have ES : Hid (srcOps p h b = bops p.blocks sb) := by show _ = _; unfold srcOps; rw [HSB.out]; rfl
  have EN : Hid ((q.regs + q.slots).toNat = n2) := by show _ = _; rw [HN2.out]; rfl
  cases big1 with
  | true =>
    have HF5 : Hid (Post (.returned (.int .i64 5)) (w2.alloc (.cells #[.slice (some ⟨P2, 0, none⟩) n2 cap2, .int .i64 (ckind c2), .int .i64 (cval c2), .slice co2 cn2 cc2, .int .i64 c2.size, .string (str (showT c2)), .slice mo2 mn2 mc2, .bool big2, .int .i64 q.regs, .int .i64 q.data] 181))) := by
      have e5 : codeD p q h b = 5 := by
        unfold codeD
        rw [if_pos (.inl (by rw [ES.out]; have := HBG1.out; rw [HPS.out] at this; exact this.symm))]
      have := HP.out W low3
      rw [e5, HWE.out] at this
      exact this
    clear ro3 rf3 r13 r22 low3 hS13 hS23 HWE HP
    go_wp2
    exact HF5.out
  | false =>
  cases big2 with
  | true =>
    have HF5 : Hid (Post (.returned (.int .i64 5)) (w2.alloc (.cells #[.slice (some ⟨P2, 0, none⟩) n2 cap2, .int .i64 (ckind c2), .int .i64 (cval c2), .slice co2 cn2 cc2, .int .i64 c2.size, .string (str (showT c2)), .slice mo2 mn2 mc2, .bool true, .int .i64 q.regs, .int .i64 q.data] 181))) := by
      have e5 : codeD p q h b = 5 := by
        unfold codeD
        rw [if_pos (.inr (by rw [EN.out]; exact HBG2.out.symm))]
      have := HP.out W low3
      rw [e5, HWE.out] at this
      exact this
    clear ro3 rf3 r13 r22 low3 hS13 hS23 HWE HP
    go_wp2
    exact HF5.out
  | false =>
  have C1 : Hid (¬ (bigT p.regs 0 (plainNames p.regs 0) (srcOps p h b) = true ∨ bigT q.regs q.slots (namesOf (hpairs h b) (q.regs + q.slots).toNat) (bops q.blocks b) = true)) := by
    intro hq
    rcases hq with hq | hq
    · rw [ES.out] at hq; have := HBG1.out; rw [HPS.out] at this; rw [← this] at hq; cases hq
    · rw [EN.out, ← HBG2.out] at hq; cases hq
  obtain ⟨hf1, hc1, hm1⟩ := HF1.out rfl
  obtain ⟨hf2, hc2, hm2⟩ := HF2.out rfl
  rw [HPS.out, ← ES.out] at hf1 hc1 hm1
  rw [← EN.out] at hf2 hc2 hm2
  have hn1' : (n1 : Int) = p.regs := by have := HN1.out; have := HPS.out; omega
  have hn2' : (n2 : Int) = q.regs + q.slots := HN2.out.symm
  rw [hn1'] at hc1
  rw [show ((( (q.regs + q.slots).toNat : Nat)) : Int) = q.regs + q.slots by rw [EN.out]; exact hn2'] at hc2
  have HC1 : Hid (c1 = srcT p h b p.regs) := hc1
  have HC2 : Hid (c2 = tgtT q h b (q.regs + q.slots)) := hc2
  have HM1 := Lib.hid hm1
  have HM2 := Lib.hid hm2
  have t1 : Tms W P1 n1 (srcT p h b) := hS13.tms (fun i _ => by rw [hf1]; rfl)
  have t2 : Tms W P2 n2 (tgtT q h b) := hS23.tms (fun i _ => by rw [hf2]; rfl)
  have X0 : CmpW w W w.heap.size (w.heap.size + 1) w1.heap.size w2.heap.size [.int .i64 p.args, .int .i64 p.regs, .int .i64 p.data, .int .i64 p.slots, .slice po pn pc, .int .i64 q.args, .int .i64 q.regs, .int .i64 q.data, .int .i64 q.slots, .slice qo qn qc, .slice (some ⟨hgb, hoff, none⟩) hn hc] [.int .i64 (sb : Int), .slice so sn sc] [.slice (some ⟨P1, 0, none⟩) n1 cap1, .int .i64 (ckind c1), .int .i64 (cval c1), .slice co1 cn1 cc1, .int .i64 c1.size, .string (str (showT c1)), .slice mo1 mn1 mc1, .bool false, .int .i64 p.regs, .int .i64 p.data] [.slice (some ⟨P2, 0, none⟩) n2 cap2, .int .i64 (ckind c2), .int .i64 (cval c2), .slice co2 cn2 cc2, .int .i64 c2.size, .string (str (showT c2)), .slice mo2 mn2 mc2, .bool false, .int .i64 q.regs, .int .i64 q.data] P1 n1 P2 n2 (srcT p h b) (tgtT q h b) := ⟨ro3, rf3, r13, r22, t1, t2, low3⟩
  have qL := vList_any (.slice mo1 mn1 mc1) (.slice mo2 mn2 mc2) ms1 ms2 W (texts_rd (by have := hS13.mrk; rw [← HMN1.out] at this; rw [← HMN1.out]; exact this)) (texts_rd (by have := hS23.mrk; rw [← HMN2.out] at this; rw [← HMN2.out]; exact this))
  have HX0 := Lib.hid X0
  rw [HWE.out] at qL
  clear hf1 hf2 hc1 hc2 hm1 hm2 t1 t2 ro3 rf3 r13 r22 low3 hS13 hS23 X0 HF1 HF2 HBG1 HBG2
  go_wp2_with fail
  refine qL.mono ?_
  rintro e w3 ⟨rfl, b3⟩
  rw [← HWE.out] at b3
  have X3 := HX0.out.next b3
  clear qL b3 HX0 x6 x7
  by_cases hms : ms1 = ms2
  case neg =>
    have hd : decide (ms1 = ms2) = false := by simp [hms]
    rw [hd]
    have HF : Hid (Post (.returned (.int .i64 10)) w3) := by
      have e10 : codeD p q h b = 10 := by
        unfold codeD
        rw [if_neg C1.out, if_pos (by rw [← HM1.out, ← HM2.out]; exact hms)]
      have := HP.out w3 X3.low
      rw [e10] at this
      exact this
    clear X3 HP hms hd
    go_wp2
    exact HF.out
  have hd : decide (ms1 = ms2) = true := by simp [hms]
  rw [hd]
  have C2 : Hid (¬ (marksT p.regs 0 p.data (plainNames p.regs 0) (srcOps p h b) (srcOps p h b).length ≠ marksT q.regs q.slots q.data (namesOf (hpairs h b) (q.regs + q.slots).toNat) (bops q.blocks b) (bops q.blocks b).length)) := by
    intro hq; exact hq (by rw [← HM1.out, ← HM2.out]; exact hms)
  obtain ⟨hp12, hpops⟩ := good_block hgp hsbl
  obtain ⟨hq12, hqops⟩ := good_block hgq hb
  have F1 : Hid (∀ i : Int, 0 ≤ i → i ≤ p.regs → (srcT p h b i).fine) := fun i h0 h1 => by
    unfold srcT
    rw [ES.out]
    have := behindT_fine (regs := p.regs) (slots := 0) (names := plainNames p.regs 0) (by omega) (by omega) (plain_small (by omega)) (by rw [← HPS.out]; exact hpops) _ (Nat.le_refl _) i h0 (by omega)
    exact this
  have F2 : Hid (∀ i : Int, 0 ≤ i → i ≤ q.regs + q.slots → (tgtT q h b i).fine) := fun i h0 h1 => by
    unfold tgtT
    exact behindT_fine (by omega) (by omega) (names_small (fun x hx => by have := (hpl x hx).1; omega) _) hqops _ (Nat.le_refl _) i h0 (by omega)
  have fc1 : c1.fine := by rw [HC1.out]; exact F1.out _ (by omega) (by omega)
  have fc2 : c2.fine := by rw [HC2.out]; exact F2.out _ (by omega) (by omega)
  have qS := cSame_any c1 c2 (.slice co1 cn1 cc1) (.slice co2 cn2 cc2) fc1 fc2 w3
  unfold termV at qS
  have u0 := X3.r1.cell (i := 1) rfl
  have v0 := X3.r2.cell (i := 1) rfl
  have u1 := X3.r1.cell (i := 2) rfl
  have v1 := X3.r2.cell (i := 2) rfl
  have u2 := X3.r1.cell (i := 3) rfl
  have v2 := X3.r2.cell (i := 3) rfl
  have u3 := X3.r1.cell (i := 4) rfl
  have v3 := X3.r2.cell (i := 4) rfl
  have u4 := X3.r1.cell (i := 5) rfl
  have v4 := X3.r2.cell (i := 5) rfl
  have HX3 := Lib.hid X3
  clear X3 hms hd
  go_wp2_with fail
  refine qS.mono ?_
  rintro e w4 ⟨rfl, b4⟩
  have X4 := HX3.out.next b4
  clear qS b4 HX3 u0 u1 u2 u3 u4 v0 v1 v2 v3 v4
  by_cases hcc : c1 = c2
  case neg =>
    have hd : sameT c1 c2 = false := sameT_ne hcc
    rw [hd]
    have HF : Hid (Post (.returned (.int .i64 11)) w4) := by
      have e11 : codeD p q h b = 11 := by
        unfold codeD
        rw [if_neg C1.out, if_neg C2.out, if_pos (by rw [← HC1.out, ← HC2.out]; exact hcc)]
      have := HP.out w4 X4.low
      rw [e11] at this
      exact this
    clear X4 HP hcc hd
    go_wp2
    exact HF.out
  have hd : sameT c1 c2 = true := (sameT_iff c1 c2).2 hcc
  rw [hd]
  have C3 : Hid (¬ (srcT p h b p.regs ≠ tgtT q h b (q.regs + q.slots))) := by
    intro hq; exact hq (by rw [← HC1.out, ← HC2.out]; exact hcc)
  clear hd hcc
  obtain ⟨gl, ofl, svl, hpol, _, z1l', z2l', z3l', z4l', _⟩ := blocks_at HRP.out hsbl HPN.out
  subst hpol
  obtain ⟨gr, ofr, svr, hpor, _, z1r', z2r', z3r', z4r', _⟩ := blocks_at HRQ.out hb HQN.out
  subst hpor
  have z1l := Lib.hid z1l'
  have z2l := Lib.hid z2l'
  have z3l := Lib.hid z3l'
  have z4l := Lib.hid z4l'
  have z1r := Lib.hid z1r'
  have z2r := Lib.hid z2r'
  have z3r := Lib.hid z3r'
  have z4r := Lib.hid z4r'
  obtain ⟨⟨hkl', hrl0, hrl1⟩, hxl⟩ := good_end hgp hsbl
  obtain ⟨⟨hkr', hrr0, hrr1⟩, hxr⟩ := good_end hgq hb
  obtain ⟨rl, hrl'⟩ := Int.eq_ofNat_of_zero_le hrl0
  obtain ⟨rr, hrr'⟩ := Int.eq_ofNat_of_zero_le hrr0
  have hrl := Lib.hid hrl'
  have hrr := Lib.hid hrr'
  have hkl := Lib.hid hkl'
  have hkr := Lib.hid hkr'
  have hrnl : rl < n1 := by have := HN1.out; have := HPS.out; omega
  have hrnr : rr < n2 := by have := HN2.out; omega
  have hffl : Hid (srcT p h b (ber p.blocks sb)).fine := F1.out _ hrl0 (by omega)
  have hffr : Hid (tgtT q h b (ber q.blocks b)).fine := F2.out _ hrr0 (by omega)
  obtain ⟨exl, hexl'⟩ : ∃ exl, exl = exitD (srcT p h b) ⟨bek p.blocks sb, ber p.blocks sb, bex p.blocks sb, bey p.blocks sb⟩ := ⟨_, rfl⟩
  obtain ⟨exr, hexr'⟩ : ∃ exr, exr = exitD (tgtT q h b) ⟨bek q.blocks b, ber q.blocks b, bex q.blocks b, bey q.blocks b⟩ := ⟨_, rfl⟩
  have hexl := Lib.hid hexl'
  have hexr := Lib.hid hexr'
  have HEL : Hid (exL p h b = exl) := by show _ = _; unfold exL; rw [HSB.out, hexl.out]; rfl
  have HER : Hid (exR q h b = exr) := by show _ = _; unfold exR; rw [hexr.out]; rfl
  have hsbi : (0 : Int) ≤ (sb : Int) := by omega
  have hsbj : (sb : Int) < (pn : Int) := by have := HPN.out; omega
  have hbqj : (b : Int) < (qn : Int) := by have := HQN.out; omega
  have hbnd : Hid (∀ d ∈ exr.next, 0 ≤ d ∧ d < h.length) := by
    intro d hd
    rw [hexr.out] at hd
    have := exit_next (tgtT q h b) ⟨bek q.blocks b, ber q.blocks b, bex q.blocks b, bey q.blocks b⟩ hkr.out hxr d hd
    rw [HS.out.1]
    exact this
  clear z1l' z2l' z3l' z4l' z1r' z2r' z3r' z4r' hkl' hkr' hrl' hrr' hexl' hexr' hxl hxr
  have qq0 := fun V (hV : Below w4.heap.size w4 V) => cell_keep hV (X4.r1.cell (i := 0) rfl)
  have qq1 := fun V (hV : Below w4.heap.size w4 V) => cell_keep hV (X4.r1.cell (i := 1) rfl)
  have qq2 := fun V (hV : Below w4.heap.size w4 V) => cell_keep hV (X4.r1.cell (i := 2) rfl)
  have qq3 := fun V (hV : Below w4.heap.size w4 V) => cell_keep hV (X4.r1.cell (i := 3) rfl)
  have qq4 := fun V (hV : Below w4.heap.size w4 V) => cell_keep hV (X4.r1.cell (i := 4) rfl)
  have qq5 := fun V (hV : Below w4.heap.size w4 V) => cell_keep hV (X4.r1.cell (i := 5) rfl)
  have qq6 := fun V (hV : Below w4.heap.size w4 V) => cell_keep hV (X4.r1.cell (i := 6) rfl)
  have qq7 := fun V (hV : Below w4.heap.size w4 V) => cell_keep hV (X4.r1.cell (i := 7) rfl)
  have qq8 := fun V (hV : Below w4.heap.size w4 V) => cell_keep hV (X4.r1.cell (i := 8) rfl)
  have qq9 := fun V (hV : Below w4.heap.size w4 V) => cell_keep hV (X4.r1.cell (i := 9) rfl)
  have o4 := fun V (hV : Below w4.heap.size w4 V) => cell_keep hV (X4.ro.cell (i := 4) rfl)
  have f0 := fun V (hV : Below w4.heap.size w4 V) => cell_keep hV (X4.rf.cell (i := 0) rfl)
  have y1 := fun V (hV : Below w4.heap.size w4 V) => cell_keep hV (cell_keep X4.low z1l.out)
  have y2 := fun V (hV : Below w4.heap.size w4 V) => cell_keep hV (cell_keep X4.low z2l.out)
  have y3 := fun V (hV : Below w4.heap.size w4 V) => cell_keep hV (cell_keep X4.low z3l.out)
  have y4 := fun V (hV : Below w4.heap.size w4 V) => cell_keep hV (cell_keep X4.low z4l.out)
  have k0 : Below w4.heap.size w4 w4.drew := (Below.refl _ _).drew
  have kB : Below w4.heap.size w4 (w4.alloc (.cells #[.int .i64 0, .int .i64 0, .int .i64 0, .slice none 0 0, .int .i64 0, .string ⟨#[]⟩, .slice none 0 0] 186)).drew := ((Below.refl _ _).alloc (Nat.le_refl _) _).drew
  have kC : Below w4.heap.size w4 (w4.alloc (.cells #[.int .i64 0, .int .i64 0, .int .i64 0, .slice none 0 0, .int .i64 0, .string ⟨#[]⟩, .slice none 0 0] 186)) := (Below.refl _ _).alloc (Nat.le_refl _) _
  have rB : Row (w4.alloc (.cells #[.int .i64 0, .int .i64 0, .int .i64 0, .slice none 0 0, .int .i64 0, .string ⟨#[]⟩, .slice none 0 0] 186)).drew w4.heap.size 186 [.int .i64 0, .int .i64 0, .int .i64 0, .slice none 0 0, .int .i64 0, .string ⟨#[]⟩, .slice none 0 0] := heap_alloc_new w4 _
  have qe : ∀ V P', Below w4.heap.size w4 V → (∀ v w', ExAt V.heap.size w' v exl → Below V.heap.size V w' → P' (.returned v) w') → Calls Tryz.prog 135 #[.agg #[.slice (some ⟨P1, 0, none⟩) n1 cap1, .int .i64 (ckind c1), .int .i64 (cval c1), .slice co1 cn1 cc1, .int .i64 c1.size, .string (str (showT c1)), .slice mo1 mn1 mc1, .bool false, .int .i64 p.regs, .int .i64 p.data], .agg #[.int .i64 (bek p.blocks sb), .int .i64 (ber p.blocks sb), .int .i64 (bex p.blocks sb), .int .i64 (bey p.blocks sb)]] V P' := fun V P' hV hP =>
    vExitT_cps (was := srcT p h b) cap1 (ckind c1) (cval c1) c1.size p.regs p.data co1 mo1 cn1 cc1 mn1 mc1 (str (showT c1)) false ⟨bek p.blocks sb, ber p.blocks sb, bex p.blocks sb, bey p.blocks sb⟩ rl hrl.out hrnl hkl.out (by omega) (by rw [← hrl.out]; exact hffl.out) V (X4.t1.keep hV) P' (by rw [← hexl.out]; exact hP)
  have HX := Lib.hid X4
  have HRB := Lib.hid rB
  clear X4 rB
  go_wp2
  go_region_held3 (fun w' => Below w4.heap.size w4 w') (first | with_reducible exact k0 | with_reducible exact kB | with_reducible exact kC | with_reducible exact b3 | with_reducible exact k1 | with_reducible exact k2) (first | (go_at_call 135; refine qe _ _ ?_ ?_; exact k0; intro vl w3l hvl b3'; obtain ⟨eal, ebl, esl, epl, enl, ecl, nvl, rfl, hnwl, hnbl⟩ := hvl; obtain ⟨eol, eql, rfl, _, _⟩ := id hnwl; have b3 : Below w4.heap.size w4 w3l := k0.trans (b3'.mono k0.size); have k1 : Below w4.heap.size w4 (w3l.alloc (.cells #[.int .i64 0, .int .i64 0, .int .i64 0, .slice none 0 0, .int .i64 0, .string ⟨#[]⟩, .slice none 0 0] 186)) := b3.alloc b3.size _; have k2 : Below w4.heap.size w4 (w3l.alloc (.cells #[.int .i64 exl.kind, .int .i64 eal, .int .i64 ebl, .slice epl enl ecl, .int .i64 esl, .string (onText exl.on), .slice eol exl.next.length eql] 186)) := b3.alloc b3.size _) | (go_at_call 135; refine qe _ _ ?_ ?_; exact kB; intro vl w3l hvl b3'; obtain ⟨eal, ebl, esl, epl, enl, ecl, nvl, rfl, hnwl, hnbl⟩ := hvl; obtain ⟨eol, eql, rfl, _, _⟩ := id hnwl; have b3 : Below w4.heap.size w4 w3l := kB.trans (b3'.mono kB.size); have rz := HRB.out.keep b3'; have z0 := rz.cell (i := 0) rfl; have z1 := rz.cell (i := 1) rfl; have z2 := rz.cell (i := 2) rfl; have z3 := rz.cell (i := 3) rfl; have z4 := rz.cell (i := 4) rfl; have z5 := rz.cell (i := 5) rfl; have z6 := rz.cell (i := 6) rfl; have g0 := rz.frozen 0; have g1 := rz.frozen 1; have g2 := rz.frozen 2; have g3 := rz.frozen 3; have g4 := rz.frozen 4; have g5 := rz.frozen 5; have g6 := rz.frozen 6; have k1 : Below w4.heap.size w4 (sevn w3l w4.heap.size (.int .i64 exl.kind) (.int .i64 eal) (.int .i64 ebl) (.slice epl enl ecl) (.int .i64 esl) (.string (onText exl.on)) (.slice eol exl.next.length eql)) := sevn_below b3 (Nat.le_refl _) _ _ _ _ _ _ _; have k2 := k1; unfold sevn at k1))
  all_goals
    first
    | (obtain ⟨Xl, hXl⟩ : ∃ X, X = w3l.alloc (.cells #[.int .i64 exl.kind, .int .i64 eal, .int .i64 ebl, .slice epl enl ecl, .int .i64 esl, .string (onText exl.on), .slice eol exl.next.length eql] 186) := ⟨_, rfl⟩
       rw [← hXl]
       have Yl := HX.out.next k2
       have rwl : Row (w3l.alloc (.cells #[.int .i64 exl.kind, .int .i64 eal, .int .i64 ebl, .slice epl enl ecl, .int .i64 esl, .string (onText exl.on), .slice eol exl.next.length eql] 186)) w3l.heap.size 186 [.int .i64 exl.kind, .int .i64 eal, .int .i64 ebl, .slice epl enl ecl, .int .i64 esl, .string (onText exl.on), .slice eol exl.next.length eql] := heap_alloc_new w3l _
       have hnl := hnwl.keep ((Below.refl w3l.heap.size w3l).alloc (Nat.le_refl _) (.cells #[.int .i64 exl.kind, .int .i64 eal, .int .i64 ebl, .slice epl enl ecl, .int .i64 esl, .string (onText exl.on), .slice eol exl.next.length eql] 186))
       have bXl := k2
       rw [← hXl] at Yl rwl hnl bXl
       clear hXl
       generalize w3l.heap.size = Ll at *)
    | (obtain ⟨Xl, hXl⟩ : ∃ X, X = sevn w3l w4.heap.size (.int .i64 exl.kind) (.int .i64 eal) (.int .i64 ebl) (.slice epl enl ecl) (.int .i64 esl) (.string (onText exl.on)) (.slice eol exl.next.length eql) := ⟨_, rfl⟩
       unfold sevn at hXl
       rw [← hXl]
       have Yl := HX.out.next k2
       have rwl : Row (sevn w3l w4.heap.size (.int .i64 exl.kind) (.int .i64 eal) (.int .i64 ebl) (.slice epl enl ecl) (.int .i64 esl) (.string (onText exl.on)) (.slice eol exl.next.length eql)) w4.heap.size 186 [.int .i64 exl.kind, .int .i64 eal, .int .i64 ebl, .slice epl enl ecl, .int .i64 esl, .string (onText exl.on), .slice eol exl.next.length eql] := sevn_on rz _ _ _ _ _ _ _
       have hnl := words_sevn hnwl (g := w4.heap.size) (fun o n c e => by have := hnbl o n c e; simp only [World.size_drew, World.size_alloc] at this; omega) (.int .i64 exl.kind) (.int .i64 eal) (.int .i64 ebl) (.slice epl enl ecl) (.int .i64 esl) (.string (onText exl.on)) (.slice eol exl.next.length eql)
       have bXl := k2
       unfold sevn at Yl rwl hnl bXl
       rw [← hXl] at Yl rwl hnl bXl
       clear hXl
       generalize w4.heap.size = Ll at *)
    clear qe qq0 qq1 qq2 qq3 qq4 qq5 qq6 qq7 qq8 qq9 o4 f0 y1 y2 y3 y4 HX HRB hnwl hnbl k0 k1 k2 kB kC b3 b3'
    have qq0 := fun V (hV : Below Xl.heap.size Xl V) => cell_keep hV (Yl.r2.cell (i := 0) rfl)
    have qq1 := fun V (hV : Below Xl.heap.size Xl V) => cell_keep hV (Yl.r2.cell (i := 1) rfl)
    have qq2 := fun V (hV : Below Xl.heap.size Xl V) => cell_keep hV (Yl.r2.cell (i := 2) rfl)
    have qq3 := fun V (hV : Below Xl.heap.size Xl V) => cell_keep hV (Yl.r2.cell (i := 3) rfl)
    have qq4 := fun V (hV : Below Xl.heap.size Xl V) => cell_keep hV (Yl.r2.cell (i := 4) rfl)
    have qq5 := fun V (hV : Below Xl.heap.size Xl V) => cell_keep hV (Yl.r2.cell (i := 5) rfl)
    have qq6 := fun V (hV : Below Xl.heap.size Xl V) => cell_keep hV (Yl.r2.cell (i := 6) rfl)
    have qq7 := fun V (hV : Below Xl.heap.size Xl V) => cell_keep hV (Yl.r2.cell (i := 7) rfl)
    have qq8 := fun V (hV : Below Xl.heap.size Xl V) => cell_keep hV (Yl.r2.cell (i := 8) rfl)
    have qq9 := fun V (hV : Below Xl.heap.size Xl V) => cell_keep hV (Yl.r2.cell (i := 9) rfl)
    have o4 := fun V (hV : Below Xl.heap.size Xl V) => cell_keep hV (Yl.ro.cell (i := 9) rfl)
    have y1 := fun V (hV : Below Xl.heap.size Xl V) => cell_keep hV (cell_keep Yl.low z1r.out)
    have y2 := fun V (hV : Below Xl.heap.size Xl V) => cell_keep hV (cell_keep Yl.low z2r.out)
    have y3 := fun V (hV : Below Xl.heap.size Xl V) => cell_keep hV (cell_keep Yl.low z3r.out)
    have y4 := fun V (hV : Below Xl.heap.size Xl V) => cell_keep hV (cell_keep Yl.low z4r.out)
    have k0 : Below Xl.heap.size Xl Xl.drew := (Below.refl _ _).drew
    have kB : Below Xl.heap.size Xl (Xl.alloc (.cells #[.int .i64 0, .int .i64 0, .int .i64 0, .slice none 0 0, .int .i64 0, .string ⟨#[]⟩, .slice none 0 0] 186)).drew := ((Below.refl _ _).alloc (Nat.le_refl _) _).drew
    have kC : Below Xl.heap.size Xl (Xl.alloc (.cells #[.int .i64 0, .int .i64 0, .int .i64 0, .slice none 0 0, .int .i64 0, .string ⟨#[]⟩, .slice none 0 0] 186)) := (Below.refl _ _).alloc (Nat.le_refl _) _
    have rB : Row (Xl.alloc (.cells #[.int .i64 0, .int .i64 0, .int .i64 0, .slice none 0 0, .int .i64 0, .string ⟨#[]⟩, .slice none 0 0] 186)).drew Xl.heap.size 186 [.int .i64 0, .int .i64 0, .int .i64 0, .slice none 0 0, .int .i64 0, .string ⟨#[]⟩, .slice none 0 0] := heap_alloc_new Xl _
    have qe : ∀ V P', Below Xl.heap.size Xl V → (∀ v w', ExAt V.heap.size w' v exr → Below V.heap.size V w' → P' (.returned v) w') → Calls Tryz.prog 135 #[.agg #[.slice (some ⟨P2, 0, none⟩) n2 cap2, .int .i64 (ckind c2), .int .i64 (cval c2), .slice co2 cn2 cc2, .int .i64 c2.size, .string (str (showT c2)), .slice mo2 mn2 mc2, .bool false, .int .i64 q.regs, .int .i64 q.data], .agg #[.int .i64 (bek q.blocks b), .int .i64 (ber q.blocks b), .int .i64 (bex q.blocks b), .int .i64 (bey q.blocks b)]] V P' := fun V P' hV hP =>
      vExitT_cps (was := tgtT q h b) cap2 (ckind c2) (cval c2) c2.size q.regs q.data co2 mo2 cn2 cc2 mn2 mc2 (str (showT c2)) false ⟨bek q.blocks b, ber q.blocks b, bex q.blocks b, bey q.blocks b⟩ rr hrr.out hrnr hkr.out (by omega) (by rw [← hrr.out]; exact hffr.out) V (Yl.t2.keep hV) P' (by rw [← hexr.out]; exact hP)
    have HX := Lib.hid Yl
    have HRB := Lib.hid rB
    clear Yl rB
    go_wp2
    go_region_held3 (fun w' => Below Xl.heap.size Xl w') (first | with_reducible exact k0 | with_reducible exact kB | with_reducible exact kC | with_reducible exact b3 | with_reducible exact k1 | with_reducible exact k2) (first | (go_at_call 135; refine qe _ _ ?_ ?_; exact k0; intro vr w3r hvr b3'; obtain ⟨ear, ebr, esr, epr, enr, ecr, nvr, rfl, hnwr, hnbr⟩ := hvr; obtain ⟨eor, eqr, rfl, _, _⟩ := id hnwr; have b3 : Below Xl.heap.size Xl w3r := k0.trans (b3'.mono k0.size); have k1 : Below Xl.heap.size Xl (w3r.alloc (.cells #[.int .i64 0, .int .i64 0, .int .i64 0, .slice none 0 0, .int .i64 0, .string ⟨#[]⟩, .slice none 0 0] 186)) := b3.alloc b3.size _; have k2 : Below Xl.heap.size Xl (w3r.alloc (.cells #[.int .i64 exr.kind, .int .i64 ear, .int .i64 ebr, .slice epr enr ecr, .int .i64 esr, .string (onText exr.on), .slice eor exr.next.length eqr] 186)) := b3.alloc b3.size _) | (go_at_call 135; refine qe _ _ ?_ ?_; exact kB; intro vr w3r hvr b3'; obtain ⟨ear, ebr, esr, epr, enr, ecr, nvr, rfl, hnwr, hnbr⟩ := hvr; obtain ⟨eor, eqr, rfl, _, _⟩ := id hnwr; have b3 : Below Xl.heap.size Xl w3r := kB.trans (b3'.mono kB.size); have rz := HRB.out.keep b3'; have z0 := rz.cell (i := 0) rfl; have z1 := rz.cell (i := 1) rfl; have z2 := rz.cell (i := 2) rfl; have z3 := rz.cell (i := 3) rfl; have z4 := rz.cell (i := 4) rfl; have z5 := rz.cell (i := 5) rfl; have z6 := rz.cell (i := 6) rfl; have g0 := rz.frozen 0; have g1 := rz.frozen 1; have g2 := rz.frozen 2; have g3 := rz.frozen 3; have g4 := rz.frozen 4; have g5 := rz.frozen 5; have g6 := rz.frozen 6; have k1 : Below Xl.heap.size Xl (sevn w3r Xl.heap.size (.int .i64 exr.kind) (.int .i64 ear) (.int .i64 ebr) (.slice epr enr ecr) (.int .i64 esr) (.string (onText exr.on)) (.slice eor exr.next.length eqr)) := sevn_below b3 (Nat.le_refl _) _ _ _ _ _ _ _; have k2 := k1; unfold sevn at k1))
    all_goals
      first
      | (obtain ⟨Xr, hXr⟩ : ∃ X, X = w3r.alloc (.cells #[.int .i64 exr.kind, .int .i64 ear, .int .i64 ebr, .slice epr enr ecr, .int .i64 esr, .string (onText exr.on), .slice eor exr.next.length eqr] 186) := ⟨_, rfl⟩
         rw [← hXr]
         have Yr := HX.out.next k2
         have rwr : Row (w3r.alloc (.cells #[.int .i64 exr.kind, .int .i64 ear, .int .i64 ebr, .slice epr enr ecr, .int .i64 esr, .string (onText exr.on), .slice eor exr.next.length eqr] 186)) w3r.heap.size 186 [.int .i64 exr.kind, .int .i64 ear, .int .i64 ebr, .slice epr enr ecr, .int .i64 esr, .string (onText exr.on), .slice eor exr.next.length eqr] := heap_alloc_new w3r _
         have hnr := hnwr.keep ((Below.refl w3r.heap.size w3r).alloc (Nat.le_refl _) (.cells #[.int .i64 exr.kind, .int .i64 ear, .int .i64 ebr, .slice epr enr ecr, .int .i64 esr, .string (onText exr.on), .slice eor exr.next.length eqr] 186))
         have bXr := k2
         rw [← hXr] at Yr rwr hnr bXr
         have rwl2 := rwl.keep bXr
         have hnl2 := hnl.keep bXr
         clear hXr
         generalize w3r.heap.size = Lr at *)
      | (obtain ⟨Xr, hXr⟩ : ∃ X, X = sevn w3r Xl.heap.size (.int .i64 exr.kind) (.int .i64 ear) (.int .i64 ebr) (.slice epr enr ecr) (.int .i64 esr) (.string (onText exr.on)) (.slice eor exr.next.length eqr) := ⟨_, rfl⟩
         unfold sevn at hXr
         rw [← hXr]
         have Yr := HX.out.next k2
         have rwr : Row (sevn w3r Xl.heap.size (.int .i64 exr.kind) (.int .i64 ear) (.int .i64 ebr) (.slice epr enr ecr) (.int .i64 esr) (.string (onText exr.on)) (.slice eor exr.next.length eqr)) Xl.heap.size 186 [.int .i64 exr.kind, .int .i64 ear, .int .i64 ebr, .slice epr enr ecr, .int .i64 esr, .string (onText exr.on), .slice eor exr.next.length eqr] := sevn_on rz _ _ _ _ _ _ _
         have hnr := words_sevn hnwr (g := Xl.heap.size) (fun o n c e => by have := hnbr o n c e; simp only [World.size_drew, World.size_alloc] at this; omega) (.int .i64 exr.kind) (.int .i64 ear) (.int .i64 ebr) (.slice epr enr ecr) (.int .i64 esr) (.string (onText exr.on)) (.slice eor exr.next.length eqr)
         have bXr := k2
         unfold sevn at Yr rwr hnr bXr
         rw [← hXr] at Yr rwr hnr bXr
         have rwl2 := rwl.keep bXr
         have hnl2 := hnl.keep bXr
         clear hXr
         generalize Xl.heap.size = Lr at *)
      clear qe qq0 qq1 qq2 qq3 qq4 qq5 qq6 qq7 qq8 qq9 o4 y1 y2 y3 y4 HX HRB hnwr hnbr k0 k1 k2 kB kC b3 b3'
      clear rwl hnl bXl bXr
      have s0l := rwl2.cell (i := 0) rfl
      have s0r := rwr.cell (i := 0) rfl
      by_cases hkd : exl.kind = exr.kind
      case neg =>
        have e0 : (exl.kind == exr.kind) = false := by rw [beq_eq_false_iff_ne]; exact hkd
        have HF : Hid (Post (.returned (.int .i64 12)) Xr) := by
          have ec : codeD p q h b = 12 := by
            unfold codeD
            rw [if_neg C1.out, if_neg C2.out, if_neg C3.out, if_pos (by rw [HEL.out, HER.out]; exact .inl hkd)]
          have := HP.out Xr Yr.low
          rw [ec] at this
          exact this
        clear Yr HP rwl2 rwr hnl2 hnr
        go_wp2
        exact HF.out
      have e0 : (exl.kind == exr.kind) = true := by rw [beq_iff_eq]; exact hkd
      have HKD := Lib.hid hkd
      have qS := vSame_any eal ebl esl ear ebr esr epl epr enl ecl enr ecr (onText exl.on) (onText exr.on) Xr
      have ul1 := rwl2.cell (i := 1) rfl
      have ur1 := rwr.cell (i := 1) rfl
      have ul2 := rwl2.cell (i := 2) rfl
      have ur2 := rwr.cell (i := 2) rfl
      have ul3 := rwl2.cell (i := 3) rfl
      have ur3 := rwr.cell (i := 3) rfl
      have ul4 := rwl2.cell (i := 4) rfl
      have ur4 := rwr.cell (i := 4) rfl
      have ul5 := rwl2.cell (i := 5) rfl
      have ur5 := rwr.cell (i := 5) rfl
      have HYr := Lib.hid Yr
      have HRL := Lib.hid rwl2
      have HRR := Lib.hid rwr
      have HNL := Lib.hid hnl2
      have HNR := Lib.hid hnr
      clear Yr rwl2 rwr hnl2 hnr hkd
      go_wp2_with fail
      refine qS.mono ?_
      rintro e w6 ⟨rfl, b6⟩
      have Y6 := HYr.out.next b6
      have rl6 := HRL.out.keep b6
      have rr6 := HRR.out.keep b6
      have nl6 := HNL.out.keep b6
      have nr6 := HNR.out.keep b6
      clear qS b6 HYr HRL HRR HNL HNR s0l s0r ul1 ul2 ul3 ul4 ul5 ur1 ur2 ur3 ur4 ur5
      by_cases hon : onText exl.on = onText exr.on
      case neg =>
        rw [bytes_ne hon]
        have HF : Hid (Post (.returned (.int .i64 12)) w6) := by
          have ec : codeD p q h b = 12 := by
            unfold codeD
            rw [if_neg C1.out, if_neg C2.out, if_neg C3.out, if_pos (by rw [HEL.out, HER.out]; exact .inr hon)]
          have := HP.out w6 Y6.low
          rw [ec] at this
          exact this
        clear Y6 HP hon rl6 rr6 nl6 nr6
        go_wp2
        exact HF.out
      rw [bytes_same hon]
      have C4 : Hid (¬ ((exL p h b).kind ≠ (exR q h b).kind ∨ onText (exL p h b).on ≠ onText (exR q h b).on)) := by
        rw [HEL.out, HER.out]
        intro hq
        rcases hq with hq | hq
        · exact hq HKD.out
        · exact hq hon
      have qT := fun P' => vTogether_cps p.args p.regs p.data p.slots q.args q.regs q.data q.slots (some ⟨gl, ofl, none⟩) (some ⟨gr, ofr, none⟩) (some ⟨hgb, hoff, none⟩) pn pc qn qc hc h (.slice eol exl.next.length eql) (.slice eor exr.next.length eqr) exl.next exr.next w6 (by have := HRH.out.keep Y6.low; rw [HHN.out] at this; exact this) nl6 nr6 hbnd.out P'
      rw [← HHN.out] at qT
      have oc0 := Y6.ro.cell (i := 0) rfl
      have oc1 := Y6.ro.cell (i := 1) rfl
      have oc2 := Y6.ro.cell (i := 2) rfl
      have oc3 := Y6.ro.cell (i := 3) rfl
      have oc4 := Y6.ro.cell (i := 4) rfl
      have oc5 := Y6.ro.cell (i := 5) rfl
      have oc6 := Y6.ro.cell (i := 6) rfl
      have oc7 := Y6.ro.cell (i := 7) rfl
      have oc8 := Y6.ro.cell (i := 8) rfl
      have oc9 := Y6.ro.cell (i := 9) rfl
      have oc10 := Y6.ro.cell (i := 10) rfl
      have l6 := rl6.cell (i := 6) rfl
      have r6 := rr6.cell (i := 6) rfl
      have HY6 := Lib.hid Y6
      have HRR := Lib.hid rr6
      have HNR := Lib.hid nr6
      clear Y6 rl6 rr6 nl6 nr6 hon
      generalize hLL : exl.next.length = lnl at *
      generalize hLR : exr.next.length = lnr at *
      have HLL := Lib.hid hLL
      have HLR := Lib.hid hLR
      clear hLL hLR
      go_wp2_with fail
      refine qT _ ?_
      intro z w7 hz b7
      have HZ := Lib.hid hz
      have Y7 := HY6.out.next b7
      have rr7 := HRR.out.keep b7
      have nr7 := HNR.out.keep b7
      clear qT b7 hz HY6 HRR HNR l6 r6 oc0 oc1 oc2 oc3 oc4 oc5 oc6 oc7 oc8 oc9 oc10
      cases z with
      | false =>
        have HF : Hid (Post (.returned (.int .i64 13)) w7) := by
          have ec : codeD p q h b = 13 := by
            unfold codeD
            rw [if_neg C1.out, if_neg C2.out, if_neg C3.out, if_neg C4.out, if_pos (by rw [HEL.out, HER.out]; intro hA; have := HZ.out.2 (by rw [← HLL.out, ← HLR.out]; exact hA); cases this)]
          have := HP.out w7 Y7.low
          rw [ec] at this
          exact this
        clear Y7 HP rr7 nr7
        go_wp2
        exact HF.out
      | true =>
        have C5 : Hid (¬ ¬ (∀ i, i < (exL p h b).next.length → i < (exR q h b).next.length → hsrc h ((exR q h b).next.getD i 0).toNat = (exL p h b).next.getD i 0)) := by
          intro hq
          exact hq (by rw [HEL.out, HER.out]; have := HZ.out.1 rfl; rw [← HLL.out, ← HLR.out] at this; exact this)
        have qK := vKeeps_any (was1 := srcT p h b) (was2 := tgtT q h b) p.args p.regs p.data p.slots q.args q.regs q.data q.slots (some ⟨gl, ofl, none⟩) (some ⟨gr, ofr, none⟩) (some ⟨hgb, hoff, none⟩) pn pc qn qc hc cap1 (ckind c1) (cval c1) c1.size p.regs p.data co1 mo1 cn1 cc1 mn1 mc1 (str (showT c1)) false cap2 (ckind c2) (cval c2) c2.size q.regs q.data co2 mo2 cn2 cc2 mn2 mc2 (str (showT c2)) false h (.slice eor lnr eqr) exr.next w7 (by have := HRH.out.keep Y7.low; rw [HHN.out] at this; exact this) nr7 hbnd.out Y7.t1 Y7.t2 (by omega) (by omega) (fun b' hb' x hx => by
          have h1 := (HS.out.2 b' hb').2 x hx
          have h2 := (goodHint_at hgh hb').2 x hx
          have h3 := HN1.out
          have h4 := HN2.out
          have h5 := HPS.out
          omega) (fun i h0 h1 => F1.out i h0 (by have := HN1.out; have := HPS.out; omega)) (fun i h0 h1 => F2.out i h0 (by have := HN2.out; omega))
        rw [← HHN.out] at qK
        have oc0 := Y7.ro.cell (i := 0) rfl
        have oc1 := Y7.ro.cell (i := 1) rfl
        have oc2 := Y7.ro.cell (i := 2) rfl
        have oc3 := Y7.ro.cell (i := 3) rfl
        have oc4 := Y7.ro.cell (i := 4) rfl
        have oc5 := Y7.ro.cell (i := 5) rfl
        have oc6 := Y7.ro.cell (i := 6) rfl
        have oc7 := Y7.ro.cell (i := 7) rfl
        have oc8 := Y7.ro.cell (i := 8) rfl
        have oc9 := Y7.ro.cell (i := 9) rfl
        have oc10 := Y7.ro.cell (i := 10) rfl
        have sa0 := Y7.r1.cell (i := 0) rfl
        have sz0 := Y7.r2.cell (i := 0) rfl
        have sa1 := Y7.r1.cell (i := 1) rfl
        have sz1 := Y7.r2.cell (i := 1) rfl
        have sa2 := Y7.r1.cell (i := 2) rfl
        have sz2 := Y7.r2.cell (i := 2) rfl
        have sa3 := Y7.r1.cell (i := 3) rfl
        have sz3 := Y7.r2.cell (i := 3) rfl
        have sa4 := Y7.r1.cell (i := 4) rfl
        have sz4 := Y7.r2.cell (i := 4) rfl
        have sa5 := Y7.r1.cell (i := 5) rfl
        have sz5 := Y7.r2.cell (i := 5) rfl
        have sa6 := Y7.r1.cell (i := 6) rfl
        have sz6 := Y7.r2.cell (i := 6) rfl
        have sa7 := Y7.r1.cell (i := 7) rfl
        have sz7 := Y7.r2.cell (i := 7) rfl
        have sa8 := Y7.r1.cell (i := 8) rfl
        have sz8 := Y7.r2.cell (i := 8) rfl
        have sa9 := Y7.r1.cell (i := 9) rfl
        have sz9 := Y7.r2.cell (i := 9) rfl
        have r6 := rr7.cell (i := 6) rfl
        have HY7 := Lib.hid Y7
        clear Y7 rr7 nr7
        go_wp2_with fail
        refine qK.mono ?_
        rintro e w8 ⟨z, rfl, hz, b8⟩
        have HZ2 := Lib.hid hz
        have Y8 := HY7.out.next b8
        clear qK b8 hz HY7
        cases z with
        | false =>
          have HF : Hid (Post (.returned (.int .i64 14)) w8) := by
            have ec : codeD p q h b = 14 := by
              unfold codeD
              rw [if_neg C1.out, if_neg C2.out, if_neg C3.out, if_neg C4.out, if_neg C5.out, if_pos (by rw [HER.out]; intro hA; have := HZ2.out.2 hA; cases this)]
            have := HP.out w8 Y8.low
            rw [ec] at this
            exact this
          clear Y8 HP
          go_wp2
          exact HF.out
        | true =>
          have HF : Hid (Post (.returned (.int .i64 0)) w8) := by
            have ec : codeD p q h b = 0 := by
              unfold codeD
              rw [if_neg C1.out, if_neg C2.out, if_neg C3.out, if_neg C4.out, if_neg C5.out, if_neg (by rw [HER.out]; intro hA; exact hA (HZ2.out.1 rfl))]
            have := HP.out w8 Y8.low
            rw [ec] at this
            exact this
          clear Y8 HP
          go_wp2
          exact HF.out

end Go.Proofs.YtblhmeidbjigaabGreatDoor
