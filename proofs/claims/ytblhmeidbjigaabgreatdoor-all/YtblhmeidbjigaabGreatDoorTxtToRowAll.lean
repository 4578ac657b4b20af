/- Texts of hints: what is read is what was written. -/
import Derived.Test.YtblhmeidbjigaabGreatDoorRows
import Derived.WalkKit
import Derived.WalkSpells
import Derived.WalkLawsBesides
import Derived.Laws.BytesArg
import Derived.Deep.QuietTactic
import Derived.BigQuiet
import Derived.Deep.RegionHeld3
import Derived.Test.YtblhmeidbjigaabGreatDoorCodJToRefJAll

set_option linter.unusedSimpArgs false
set_option linter.unusedVariables false
namespace Go.Proofs.YtblhmeidbjigaabGreatDoor
open Go.RowKit

theorem byt_toNat {n : Int} (h0 : 0 ≤ n) (h1 : n < 256) : ((byt n).toNat : Int) = n := by
  unfold byt
  rw [UInt8.toNat_ofNat']
  omega

theorem byt_of (b : UInt8) : byt (b.toNat : Int) = b := by
  unfold byt
  have := b.toNat_lt
  apply UInt8.toNat_inj.1
  rw [UInt8.toNat_ofNat']
  omega

theorem str_size (l : List UInt8) : (str l).size = l.length := by simp [str, ByteArray.size]

theorem byteOr_str {d : Int} {l : List UInt8} {i : Nat} {b : UInt8} (h : l[i]? = some b) : byteOr d (str l) i = b.toNat := by
  have hi : i < l.length := (List.getElem?_eq_some_iff.1 h).1
  have e : l[i] = b := (List.getElem?_eq_some_iff.1 h).2
  unfold byteOr
  rw [if_pos (by rw [str_size]; omega)]
  have : (str l)[(i : Int).toNat]! = b := by
    rw [Int.toNat_natCast, getElem!_pos _ _ (by rw [str_size]; exact hi), ← e]
    rfl
  rw [this]

theorem str_of (s : ByteArray) : s = str s.data.toList := by simp [str]

theorem pairsText_get (ps : List PairD) (i : Nat) (hi : i < ps.length) : (pairsText ps)[i * 2]? = some (byt (preg ps i)) ∧ (pairsText ps)[i * 2 + 1]? = some (byt (pplace ps i)) := by
  induction ps generalizing i with
  | nil => simp at hi
  | cons p r ih =>
    cases i with
    | zero => exact ⟨rfl, rfl⟩
    | succ i =>
      have h := ih i (by simpa using hi)
      have e1 : (i + 1) * 2 = i * 2 + 1 + 1 := by omega
      rw [e1]
      exact h

theorem get_mid {l a b c : List UInt8} {o i : Nat} {x : UInt8} (hl : l = a ++ b ++ c) (ho : a.length = o) (h : b[i]? = some x) : l[o + i]? = some x := by
  have hi : i < b.length := (List.getElem?_eq_some_iff.1 h).1
  subst hl; subst ho
  rw [List.append_assoc, List.getElem?_append_right (by omega), Nat.add_sub_cancel_left, List.getElem?_append_left hi, h]

def pairsOk (ps : List PairD) : Prop := ∀ i, i < ps.length → 0 ≤ preg ps i ∧ preg ps i < 256 ∧ 0 ≤ pplace ps i ∧ pplace ps i < 256

theorem goodPairs_ok : ∀ (ps : List PairD) (last : Int), goodPairs last ps = true → pairsOk ps
  | [], _, _ => fun i hi => by simp at hi
  | p :: r, last, h => by
    simp only [goodPairs, Bool.and_eq_true, below, decide_eq_true_eq] at h
    have ih := goodPairs_ok r _ h.2
    intro i hi
    cases i with
    | zero => show 0 ≤ p.reg ∧ p.reg < 256 ∧ 0 ≤ p.place ∧ p.place < 256; omega
    | succ i => exact ih i (by simpa using hi)

theorem pairsAt_text {d : Int} {l a c : List UInt8} {ps : List PairD} {o : Nat} (hl : l = a ++ pairsText ps ++ c) (ho : a.length = o) (hok : pairsOk ps) (k : Nat) (hk : k ≤ ps.length) : pairsAt d (str l) o k = ps.take k := by
  induction k with
  | zero => rfl
  | succ k ih =>
    have hk' : k < ps.length := by omega
    have hg := pairsText_get ps k hk'
    have ho' := hok k hk'
    have e1 : byteOr d (str l) ((o : Int) + 2 * k) = preg ps k := by
      rw [show (o : Int) + 2 * k = ((o + k * 2 : Nat) : Int) by omega, byteOr_str (get_mid hl ho hg.1), byt_toNat ho'.1 ho'.2.1]
    have e2 : byteOr d (str l) ((o : Int) + 2 * k + 1) = pplace ps k := by
      rw [show (o : Int) + 2 * k + 1 = ((o + (k * 2 + 1) : Nat) : Int) by omega, byteOr_str (get_mid hl ho hg.2), byt_toNat ho'.2.2.1 ho'.2.2.2]
    rw [pairsAt, ih (by omega), e1, e2, take_getD ps pz k hk']
    rfl

theorem hintText_split (h : List PingD) {k : Nat} (hk : k < h.length) :
    hintText h = ([84, 72, byt h.length] ++ (h.take k).flatMap pingText) ++ pingText (h.getD k hz) ++ (h.drop (k + 1)).flatMap pingText := by
  unfold hintText
  have e : h = h.take k ++ (h.getD k hz :: h.drop (k + 1)) := by rw [← drop_getD h hz k hk, List.take_append_drop]
  conv => lhs; arg 2; rw [e]
  simp [List.flatMap_append, List.flatMap_cons]

/-- Where the k-th block begins in the text of h. -/
def offOf (h : List PingD) (k : Nat) : Nat := 3 + ((h.take k).flatMap pingText).length

theorem offOf_succ {h : List PingD} {k : Nat} (hk : k < h.length) : offOf h (k + 1) = offOf h k + 2 + 2 * (hpairs h k).length := by
  unfold offOf
  rw [take_getD h hz k hk, List.flatMap_append]
  simp [pingText_length, hpairs]
  omega

theorem offOf_len (h : List PingD) : (hintText h).length = offOf h h.length := by
  simp [offOf, hintText]; omega

theorem offOf_mono {h : List PingD} {k : Nat} (hk : k < h.length) : offOf h (k + 1) ≤ (hintText h).length := by
  have := hintText_split h hk
  rw [this]
  rw [offOf_succ hk]
  simp [pingText_length, offOf, hpairs]
  omega

/-- What is read at the k-th block of a good hint's text. -/
theorem read_block {d : Int} {h : List PingD} (hg : goodHint h = true) {k : Nat} (hk : k < h.length) :
    byteOr d (str (hintText h)) (offOf h k) = hsrc h k ∧ byteOr d (str (hintText h)) ((offOf h k : Int) + 1) = (hpairs h k).length ∧ pairsAt d (str (hintText h)) ((offOf h k : Int) + 2) (hpairs h k).length = hpairs h k := by
  have hs := hintText_split h hk
  have hp := goodHint_ping hg (h.getD k hz) (getD_mem' hk)
  simp only [goodPing, Bool.and_eq_true, below, decide_eq_true_eq] at hp
  obtain ⟨⟨⟨hs1, hs2⟩, hl⟩, hgp⟩ := hp
  have ho : ([84, 72, byt h.length] ++ (h.take k).flatMap pingText).length = offOf h k := by simp [offOf]; omega
  refine ⟨?_, ?_, ?_⟩
  · have e := byteOr_str (d := d) (get_mid hs ho (i := 0) (x := byt (hsrc h k)) rfl)
    have g1 : 0 ≤ hsrc h k := hs1
    have g2 : hsrc h k < 256 := by show (h.getD k hz).src < 256; omega
    rw [byt_toNat g1 g2] at e
    exact e
  · have e := byteOr_str (d := d) (get_mid hs ho (i := 1) (x := byt (hpairs h k).length) rfl)
    rw [byt_toNat (by omega) (by show ((h.getD k hz).pairs.length : Int) < 256; omega)] at e
    rw [show (offOf h k : Int) + 1 = ((offOf h k + 1 : Nat) : Int) by omega]
    exact e
  · have hs' : hintText h = ([84, 72, byt h.length] ++ (h.take k).flatMap pingText ++ [byt (hsrc h k), byt (hpairs h k).length]) ++ pairsText (hpairs h k) ++ (h.drop (k + 1)).flatMap pingText := by
      rw [hs]; simp [pingText, hsrc, hpairs]
    rw [show (offOf h k : Int) + 2 = ((offOf h k + 2 : Nat) : Int) by omega]
    rw [pairsAt_text hs' (by rw [List.length_append, ho]; rfl) (goodPairs_ok _ _ hgp) _ (Nat.le_refl _), List.take_length]

theorem read_head {d : Int} {h : List PingD} (hg : goodHint h = true) : byteOr d (str (hintText h)) 0 = 84 ∧ byteOr d (str (hintText h)) 1 = 72 ∧ byteOr d (str (hintText h)) 2 = h.length := by
  have hl := goodHint_len hg
  refine ⟨?_, ?_, ?_⟩
  · exact byteOr_str (i := 0) (b := 84) rfl
  · exact byteOr_str (i := 1) (b := 72) rfl
  · have e := byteOr_str (d := d) (l := hintText h) (i := 2) (b := byt h.length) rfl
    rw [byt_toNat (by omega) (by omega)] at e
    exact e

theorem cod_reads {h : List PingD} (hg : goodHint h = true) (k : Nat) (hk : k ≤ h.length) : atOf (str (hintText h)) k = offOf h k ∧ pingsOf (str (hintText h)) k = h.take k := by
  induction k with
  | zero => exact ⟨rfl, rfl⟩
  | succ k ih =>
    obtain ⟨e1, e2⟩ := ih (by omega)
    obtain ⟨r1, r2, r3⟩ := read_block (d := -1) hg (show k < h.length by omega)
    constructor
    · rw [atOf, e1, r2, offOf_succ (by omega), Int.toNat_natCast]; omega
    · rw [pingsOf, e2, e1, take_getD h hz k (by omega)]
      congr 2
      simp only [pingAt, r1, r2, Int.toNat_natCast, r3]
      rfl

theorem ref_reads {h : List PingD} (hg : goodHint h = true) (k : Nat) (hk : k ≤ h.length) : rAt (str (hintText h)) k = offOf h k ∧ rPings (str (hintText h)) k = h.take k := by
  induction k with
  | zero => exact ⟨rfl, rfl⟩
  | succ k ih =>
    obtain ⟨e1, e2⟩ := ih (by omega)
    obtain ⟨r1, r2, r3⟩ := read_block (d := 0) hg (show k < h.length by omega)
    have hm := offOf_mono (show k < h.length by omega)
    have hsu := offOf_succ (show k < h.length by omega)
    have hj : jst (str (hintText h)).size ((offOf h k : Int) + 2) (hpairs h k).length = (hpairs h k).length := by
      unfold jst
      rw [str_size]
      omega
    constructor
    · rw [rAt, e1, r2, Int.toNat_natCast, hj, hsu]; omega
    · rw [rPings, e2, e1, r2, Int.toNat_natCast, hj, r1, r3, take_getD h hz k (by omega)]
      rfl

theorem ref_stops {h : List PingD} (hg : goodHint h = true) {i : Nat} (hi : RStop (str (hintText h)) i) : rPings (str (hintText h)) i = h := by
  obtain ⟨_, _, h2⟩ := read_head (d := 0) hg
  have : i = h.length := by
    rcases Nat.lt_trichotomy i h.length with hlt | heq | hgt
    · exfalso
      apply hi.stop
      rw [h2, (ref_reads hg i (by omega)).1, str_size]
      have := offOf_mono hlt
      have := offOf_succ hlt
      omega
    · exact heq
    · have := (hi.done h.length hgt).1
      rw [h2] at this
      omega
  subst this
  rw [(ref_reads hg _ (Nat.le_refl _)).2, List.take_length]

/-! ### Back: what was read, written again -/

theorem byteOr_in {d : Int} {s : ByteArray} {i : Nat} (hi : i < s.size) : byteOr d s i = (s.data.toList[i]'(by simpa using hi)).toNat := by
  have h : s.data.toList[i]? = some (s.data.toList[i]'(by simpa using hi)) := List.getElem?_eq_getElem _
  have := byteOr_str (d := d) h
  rwa [← str_of] at this

/-- A stretch of a text. -/
def seg (s : ByteArray) (i n : Nat) : List UInt8 := (s.data.toList.drop i).take n

theorem seg_two {s : ByteArray} {i : Nat} (h : i + 1 < s.size) : seg s i 2 = [byt (byteOr (-1) s i), byt (byteOr (-1) s ((i : Int) + 1))] := by
  have hl : s.data.toList.length = s.size := Array.length_toList
  rw [show (i : Int) + 1 = ((i + 1 : Nat) : Int) by omega, byteOr_in (show i < s.size by omega), byteOr_in h, byt_of, byt_of]
  unfold seg
  rw [List.drop_eq_getElem_cons (by omega), List.drop_eq_getElem_cons (by omega)]
  rfl

theorem seg_add (s : ByteArray) (i n m : Nat) : seg s i (n + m) = seg s i n ++ seg s (i + n) m := by
  unfold seg
  rw [List.take_add, List.drop_drop]

theorem pairs_seg {s : ByteArray} {o : Nat} (k : Nat) (h : o + 2 * k ≤ s.size) : pairsText (pairsAt (-1) s o k) = seg s o (2 * k) := by
  induction k with
  | zero => simp [pairsAt, pairsText, seg]
  | succ k ih =>
    rw [show 2 * (k + 1) = 2 * k + 2 by omega, seg_add, ← ih (by omega), seg_two (by omega)]
    simp only [pairsAt, pairsText, List.flatMap_append, List.flatMap_cons, List.flatMap_nil, List.append_nil]
    rw [show ((o + 2 * k : Nat) : Int) = (o : Int) + 2 * k by omega]

theorem pingsOf_length (s : ByteArray) (k : Nat) : (pingsOf s k).length = k := by
  induction k with
  | zero => rfl
  | succ k ih => simp [pingsOf, ih]

theorem atOf_mono (s : ByteArray) {i j : Nat} (h : i ≤ j) : atOf s i ≤ atOf s j := by
  induction j with
  | zero => obtain rfl : i = 0 := by omega
            exact Int.le_refl _
  | succ j ih =>
    by_cases e : i = j + 1
    · subst e; exact Int.le_refl _
    · have := ih (by omega)
      simp only [atOf]
      omega

theorem pings_seg {s : ByteArray} (k : Nat) (h : atOf s k ≤ s.size) : (pingsOf s k).flatMap pingText = seg s 3 (atOf s k - 3).toNat := by
  induction k with
  | zero => simp [pingsOf, atOf, seg]
  | succ k ih =>
    have hb := atOf_bd s k
    have hm := atOf_mono s (show k ≤ k + 1 by omega)
    obtain ⟨a, ha⟩ := Int.eq_ofNat_of_zero_le (show 0 ≤ atOf s k by omega)
    have hstep : atOf s (k + 1) = atOf s k + (2 + 2 * (byteOr (-1) s (atOf s k + 1)).toNat) := rfl
    generalize hm' : (byteOr (-1) s (atOf s k + 1)).toNat = m at hstep
    have hcnt : byteOr (-1) s (atOf s k + 1) = m := by
      rw [ha, show (a : Int) + 1 = ((a + 1 : Nat) : Int) by omega, byteOr_in (by omega)] at hm' ⊢
      omega
    have e3 : (atOf s (k + 1) - 3).toNat = (atOf s k - 3).toNat + (2 + 2 * m) := by omega
    rw [pingsOf, List.flatMap_append, ih (by omega), e3, seg_add, seg_add]
    have ea : 3 + (atOf s k - 3).toNat = a := by omega
    rw [ea]
    congr 1
    simp only [List.flatMap_cons, List.flatMap_nil, List.append_nil, pingText, pingAt, pairsAt_length]
    rw [hcnt, Int.toNat_natCast, ha, seg_two (by omega)]
    congr 1
    · rw [← ha, hcnt]
    · rw [show (a : Int) + 2 = ((a + 2 : Nat) : Int) by omega]
      exact pairs_seg m (by omega)

theorem cod_text {s : ByteArray} (h : readsHint s = true) : str (hintText (pingsOf s (byteOr (-1) s 2).toNat)) = s := by
  simp only [readsHint, Bool.and_eq_true, decide_eq_true_eq] at h
  obtain ⟨⟨⟨h0, h1⟩, h2⟩, h3⟩ := h
  have hb := atOf_bd s (byteOr (-1) s 2).toNat
  have hl : s.data.toList.length = s.size := Array.length_toList
  have hc : ((byteOr (-1) s 2).toNat : Int) = byteOr (-1) s 2 := by
    have e : byteOr (-1) s ((2 : Nat) : Int) = _ := byteOr_in (d := -1) (show 2 < s.size by omega)
    have e' : byteOr (-1) s 2 = _ := e
    rw [e']
    omega
  have hs := pings_seg (s := s) (byteOr (-1) s 2).toNat (by omega)
  unfold hintText
  rw [hs, pingsOf_length, hc]
  have e2 := seg_two (s := s) (i := 0) (by omega)
  have e3 : seg s 2 1 = [byt (byteOr (-1) s 2)] := by
    have e : byteOr (-1) s ((2 : Nat) : Int) = _ := byteOr_in (d := -1) (show 2 < s.size by omega)
    have e' : byteOr (-1) s 2 = _ := e
    rw [e', byt_of]
    unfold seg
    rw [List.drop_eq_getElem_cons (by omega)]
    rfl
  have z0 : byteOr (-1) s ((0 : Nat) : Int) = 84 := h0
  have z1 : byteOr (-1) s (((0 : Nat) : Int) + 1) = 72 := h1
  rw [z0, z1] at e2
  have f0 : seg s 0 s.size = s.data.toList := by unfold seg; rw [List.drop_zero, ← hl, List.take_length]
  have f1 : s.size = 2 + (1 + (atOf s (byteOr (-1) s 2).toNat - 3).toNat) := by omega
  rw [f1, seg_add, seg_add, e2, e3] at f0
  have f2 : [84, 72, byt (byteOr (-1) s 2)] ++ seg s 3 (atOf s (byteOr (-1) s 2).toNat - 3).toNat = s.data.toList := by
    rw [← f0]; rfl
  rw [f2, ← str_of]

/-! ### The two contracts, in the document's words -/

theorem cDecodeHint_any (s : ByteArray) (w : World) (hs : s.size ≤ maxLen) :
    Calls Tryz.prog 59 #[.string s] w fun e w' => ((∃ v hv, e = .returned (.tuple #[.agg #[v], .int .i64 0]) ∧ OwnHint w' w.heap.size v hv ∧ goodHint (hdat hv) = true ∧ str (hintText (hdat hv)) = s) ∨
      ((∀ h, goodHint h = true → str (hintText h) ≠ s) ∧ e = .returned (.tuple #[.agg #[.slice none 0 0], .int .i64 2]))) ∧ Below w.heap.size w w' := by
  refine cDecodeHint_cps s w hs _ ?_ ?_
  · intro v hv w' hr ho hd hb
    refine ⟨.inl ⟨v, hv, rfl, ho, ?_, ?_⟩, hb⟩
    · rw [hd]; simp only [readsHint, Bool.and_eq_true] at hr; exact hr.2
    · rw [hd]; exact cod_text hr
  · intro w' hr hb
    refine ⟨.inr ⟨?_, rfl⟩, hb⟩
    intro h hg he
    subst he
    obtain ⟨r0, r1, r2⟩ := read_head (d := -1) hg
    have := cod_reads hg h.length (Nat.le_refl _)
    simp only [readsHint, r0, r1, r2, Int.toNat_natCast, this.1, this.2, List.take_length, hg, str_size, offOf_len] at hr
    simp at hr

theorem rDecodeHint_any (s : ByteArray) (w : World) (hs : s.size ≤ maxLen) :
    Calls Tryz.prog 78 #[.string s] w fun e w' => ((∃ v hv, e = .returned (.tuple #[.agg #[v], .bool true]) ∧ OwnHint w' w.heap.size v hv ∧ goodHint (hdat hv) = true ∧ str (hintText (hdat hv)) = s) ∨
      ((∀ h, goodHint h = true → str (hintText h) ≠ s) ∧ e = .returned (.tuple #[.agg #[.slice none 0 0], .bool false]))) ∧ Below w.heap.size w w' := by
  refine rDecodeHint_cps s w hs _ ?_ ?_
  · intro v hv w' i _ ho hd hg ht hb
    exact ⟨.inl ⟨v, hv, rfl, ho, hg, ht⟩, hb⟩
  · intro w' i hst hr hb
    refine ⟨.inr ⟨?_, rfl⟩, hb⟩
    intro h hg he
    subst he
    have := ref_stops hg hst
    rw [this] at hr
    exact hr hg rfl

/-- A text is the text of one hint at most. -/
theorem hint_one {h g : List PingD} (hh : goodHint h = true) (hg : goodHint g = true) (e : str (hintText h) = str (hintText g)) : h = g := by
  have a := read_head (d := -1) hh
  have b := read_head (d := -1) hg
  have c := cod_reads hh h.length (Nat.le_refl _)
  have d := cod_reads hg g.length (Nat.le_refl _)
  have hl : h.length = g.length := by have := a.2.2; rw [e, b.2.2] at this; omega
  have x := c.2
  rw [e, hl, d.2, List.take_length, ← hl, List.take_length] at x
  exact x.symm

end Go.Proofs.YtblhmeidbjigaabGreatDoor

/- Comparing hints, in the laws. -/
set_option linter.unusedSimpArgs false
set_option linter.unusedVariables false
namespace Go.Proofs.YtblhmeidbjigaabGreatDoor
open Go.RowKit

set_option maxRecDepth 100000 in
set_option maxHeartbeats 1000000 in
theorem samePairs_any (v u : Value) (ps : List PairD) (w : World) (hv : RdPairs w v ps) (hu : RdPairs w u ps) :
    Calls Tryz.prog 93 #[v, u] w fun e w' => e = .returned (.bool true) ∧ Below w.heap.size w w' := by
  obtain ⟨ao, cap, rfl, hl, hc⟩ := hv
  obtain ⟨bo, cap2, rfl, _, hd⟩ := hu
  go_enter Tryz.func93, Tryz.ntmps93
  go_wp2
  go_loopw [5] (fun i wr => ∃ (k : Nat), k ≤ ps.length ∧ i = .int .i64 k ∧ Below w.heap.size w wr)
    (fun i _ => ps.length - (intOf i).toNat)
  case atStart => exact ⟨0, Nat.zero_le _, rfl, Below.refl _ _⟩
  case round =>
    obtain ⟨k, hk, rfl, hbel⟩ := hrel
    by_cases hlt : k < ps.length
    · obtain ⟨b, off, rfl, c1, c2⟩ := hc k hlt
      obtain ⟨b', off', rfl, d1, d2⟩ := hd k hlt
      have e1 := cell_keep hbel c1
      have e2 := cell_keep hbel c2
      have e3 := cell_keep hbel d1
      have e4 := cell_keep hbel d2
      go_wp2
      go_quiet (fail)
      go_wp2
      go_roundw
      case rel => exact ⟨k + 1, by omega, by go_num, below_drewN hbel _⟩
      case measure => simp [intOf]; omega
    · go_wp2
      go_ret
      exact ⟨rfl, hbel⟩

set_option maxRecDepth 100000 in
set_option maxHeartbeats 1000000 in
theorem sameHint_any (v u : Value) (h : List PingD) (w : World) (hv : RdHint w v h) (hu : RdHint w u h) :
    Calls Tryz.prog 50 #[.agg #[v], .agg #[u]] w fun e w' => e = .returned (.bool true) ∧ Below w.heap.size w w' := by
  obtain ⟨ao, cap, rfl, hl, hc⟩ := hv
  obtain ⟨bo, cap2, rfl, _, hd⟩ := hu
  go_enter Tryz.func50, Tryz.ntmps50
  go_wp2
  go_loopw [5] (fun i wr => ∃ (k : Nat), k ≤ h.length ∧ i = .int .i64 k ∧ Below (w.heap.size + 2) ((w.alloc (.cells #[.slice ao h.length cap] 30)).alloc (.cells #[.slice bo h.length cap2] 30)) wr)
    (fun i _ => h.length - (intOf i).toNat)
  case atStart => exact ⟨0, Nat.zero_le _, rfl, Below.refl _ _⟩
  case round =>
    obtain ⟨k, hk, rfl, hbel⟩ := hrel
    have hb0 : Below w.heap.size w wr := (((Below.refl w.heap.size w).alloc (Nat.le_refl _) _).alloc (by simp) _).trans (hbel.mono (by omega))
    have x0 : wr.cell? ⟨w.heap.size, 0, none⟩ = some (.slice ao h.length cap) := (hbel.cell (by simp)).trans (by simp)
    have x1 : wr.cell? ⟨w.heap.size + 1, 0, none⟩ = some (.slice bo h.length cap2) := (hbel.cell (by simp)).trans (by simp)
    have hz := hbel.size
    simp at hz
    by_cases hlt : k < h.length
    · obtain ⟨b, off, sv, rfl, c1, c2, c3⟩ := hc k hlt
      obtain ⟨b', off', tv, rfl, d1, d2, d3⟩ := hd k hlt
      have e1 := cell_keep hb0 c1
      have e2 := cell_keep hb0 c2
      have e3 := cell_keep hb0 d1
      have e4 := cell_keep hb0 d2
      have r1 := c3.keep hb0
      have r2 := d3.keep hb0
      have q0 := fun x : Past wr.heap.size wr => x.cell x0
      have q1 := fun x : Past wr.heap.size wr => x.cell x1
      have q2 := fun x : Past wr.heap.size wr => x.cell e2
      have q3 := fun x : Past wr.heap.size wr => x.cell e4
      have np := Past.any wr.heap.size wr
      go_wp2
      refine wp_region_past wr.heap.size (by kernel_rfl) (by kernel_rfl) ?_
      repeat (go_big_quiet_step (exact Calls.past_of (Nat.le_refl _) (samePairs_any _ _ _ _ (r1.keep (Past.ok _)) (r2.keep (Past.ok _)))))
      refine wpQuiet_nil ?_
      rintro _ ⟨x, rfl⟩
      have y0 := x.cell x0
      have y1 := x.cell x1
      have y2 := x.cell e1
      have y3 := x.cell e3
      have hb1 := hbel.trans (x.ok.mono (by omega))
      generalize x.wd = w1 at *
      clear q0 q1 q2 q3 np
      go_wp2
      go_quiet (fail)
      go_wp2
      go_roundw
      case rel => exact ⟨k + 1, by omega, by go_num, below_drewN hb1 _⟩
      case measure => simp [intOf]; omega
    · go_wp2
      go_ret
      exact ⟨rfl, hb0⟩

end Go.Proofs.YtblhmeidbjigaabGreatDoor

/- Appending to a list of one's own: what was there stays. -/
set_option linter.unusedSimpArgs false
set_option linter.unusedVariables false
namespace Go.Proofs.YtblhmeidbjigaabGreatDoor
open Go.RowKit

section
variable {P : Program} (w : World)

theorem append_stay (base : Nat) (t ty e : TypeId) (i : TypeInfo) (z : Value) (size bytes : Nat) (ht : P.underlying t = some (.slice e)) (hi : P.info? e = some i) (hz : i.zero = some z)
    (hsize : i.size = size) (hby : i.bytes = bytes) (hzs : z.cells.size = size) (hsz : 0 < size)
    (v : Value) (n : Nat) (xs : List Value) (hown : w.ownsRow base e size v n xs)
    (a : Addr) (m c : Nat) (news : List Value) (hl : news.length = m * size) (hnews : ∀ j u, news[j]? = some u → w.cell? (a.add j) = some u) (h1 : ∀ u ∈ news, u.oneCell' = true)
    (h63 : n + m ≤ maxLen) (hbytes : (n + m) * bytes ≤ 140737488355328) (hbase : base ≤ w.heap.size) (hm : 0 < m) {v' : Value} {w' : World}
    (hrun : (Builtin.append_ #[t, t] ty #[v, .slice (some a) m c]).run P w = .ok v' w') :
    w'.ownsRow base e size v n xs ∧ (∀ g, v'.ownBlock = some g → v.ownBlock = some g ∨ w.heap.size ≤ g) := by
  subst hsize
  subst hby
  have hsmall : n + m ≤ 9223372036854775807 := by simp only [maxLen] at h63; omega
  rcases hown.2 with ⟨rfl, rfl⟩ | ⟨g, cap, cur, rfl, hbg, hg, hnc, hcm, hcs, htake⟩
  · have hx : xs = [] := List.eq_nil_of_length_eq_zero (by simpa using hown.1)
    subst hx
    have hr := run_append_nil (P := P) w t ty e i z ht hi hz a m c news hl hnews hm (by omega) (by have hb := hbytes; simp only [Nat.zero_add] at hb; omega)
    rw [hr] at hrun
    simp only [Result.ok.injEq] at hrun
    obtain ⟨rfl, rfl⟩ := hrun
    exact ⟨World.ownsRow_nil _ _ _ _, fun g hg => .inr (by simp [Value.ownBlock] at hg; omega)⟩
  · by_cases hroom : n + m ≤ cap
    · have hfit : n * i.size + news.length ≤ cur.size := by rw [hl, hcs, ← Nat.add_mul]; exact Nat.mul_le_mul_right _ hroom
      have hr := run_append_room (P := P) w t ty e i ht hi g n cap cur hg a m c news hl hnews h1 hroom hfit
      rw [hr] at hrun
      simp only [Result.ok.injEq] at hrun
      obtain ⟨rfl, rfl⟩ := hrun
      refine ⟨⟨hown.1, .inr ⟨g, cap, _, rfl, hbg, setRow_heap w g cur _ e _ hg, hnc, hcm, ?_, ?_⟩⟩, fun g' hg' => .inl hg'⟩
      · simp only [List.size_toArray, List.length_append, List.length_take, List.length_drop, Array.length_toList]
        omega
      · rw [htake, List.append_assoc, ← hown.1]
        exact List.take_left
    · have holds : ∀ j u, xs[j]? = some u → w.cell? ((⟨g, 0, none⟩ : Addr).add j) = some u := hown.cells (g := g) rfl
      have hr := run_append_grow (P := P) w t ty e i z ht hi hz ⟨g, 0, none⟩ n cap xs hown.1 holds a m c news hl hnews (by omega) (by omega) (growslice_fits (by omega) hbytes)
      rw [hr] at hrun
      simp only [Result.ok.injEq] at hrun
      obtain ⟨rfl, rfl⟩ := hrun
      refine ⟨?_, fun g' hg' => .inr (by simp [Value.ownBlock] at hg'; omega)⟩
      exact (World.ownsRow.drew hown).alloc _

theorem wpList_append_stay {ops : Array Oper} {rest : List Oper} {o : Oper} {a : Act} {Q : Exit → Act → World → Prop} (hgd : o.guard = none) (s x : Operand) (t : TypeId)
    (ho : o.op = .call { callee := .builtin .append, args := #[s, x], argTypes := #[t, t] })
    (base : Nat) (e : TypeId) (i : TypeInfo) (z : Value) (size bytes : Nat) (ht : P.underlying t = some (.slice e)) (hi : P.info? e = some i) (hz : i.zero = some z)
    (hsize : i.size = size) (hby : i.bytes = bytes) (hzs : z.cells.size = size) (hsz : 0 < size)
    (v : Value) (n : Nat) (xs : List Value) (hs : a.eval s = v) (hown : w.ownsRow base e size v n xs)
    (ad : Addr) (m c : Nat) (news : List Value) (hx : a.eval x = .slice (some ad) m c) (hl : news.length = m * size) (hnews : ∀ j u, news[j]? = some u → w.cell? (ad.add j) = some u) (h1 : ∀ u ∈ news, u.oneCell' = true)
    (h63 : n + m ≤ maxLen) (hbytes : (n + m) * bytes ≤ 140737488355328) (hbase : base ≤ w.heap.size) (hm : 0 < m)
    (h : ∀ v' w', w'.ownsRow base e size v' (n + m) (xs ++ news) → w.grownBy w' v.ownBlock → w'.ownsRow base e size v n xs → (∀ g, v'.ownBlock = some g → v.ownBlock = some g ∨ w.heap.size ≤ g) → wpList P ops Q rest (a.put o.dst v') w') : wpList P ops Q (o :: rest) a w := by
  refine wpList_plain hgd fun K hK => ?_
  obtain ⟨v', w', hr, h2, h3, h4⟩ := run_append_own (P := P) w base t o.type e i z size bytes ht hi hz hsize hby hzs hsz v n xs hown ad m c news hl hnews h1 h63 hbytes hbase
  obtain ⟨h5, h6⟩ := append_stay (P := P) w base t o.type e i z size bytes ht hi hz hsize hby hzs hsz v n xs hown ad m c news hl hnews h1 h63 hbytes hbase hm hr
  unfold Oper.wp execOp
  simp only [ho, resolve, invoke, builtin, Sem.run_bind, Sem.run_pure, Result.andThen_ok, List.map_toArray, List.map_cons, List.map_nil, hs, hx, hr]
  exact hK _ _ (h v' w' h2 h3 h5 h6)
end

/-- A row that is the beginning of another one in its block. -/
theorem owns_pre {w w' : World} {B B' : Nat} {e : TypeId} {sz : Nat} {v lv : Value} {n m : Nat} {xs ys t : List Value} (hsz : 0 < sz) (h : w.ownsRow B e sz v n xs) (hl : w.ownsRow B' e sz lv m ys) {g : Nat} (hg : v.ownBlock = some g) (hg' : lv.ownBlock = some g)
    (hl' : w'.ownsRow B' e sz lv m ys) (ht : ys = xs ++ t) : w'.ownsRow B e sz v n xs := by
  refine ⟨h.1, ?_⟩
  rcases h.2 with ⟨rfl, _⟩ | ⟨k, cap, cur, rfl, hk, hh, h1, h2, h3, h4⟩
  · simp [Value.ownBlock] at hg
  rcases hl.2 with ⟨rfl, _⟩ | ⟨k', cap', cur', rfl, hk', hh', g1, g2, g3, g4⟩
  · simp [Value.ownBlock] at hg'
  simp only [Value.ownBlock, Option.some.injEq] at hg hg'
  subst hg; subst hg'
  rw [hh] at hh'
  simp only [Option.some.injEq, Obj.cells.injEq, and_true] at hh'
  have hcur : cur = cur' := hh'
  subst hcur
  have hcap : cap = cap' := by
    have : cap * sz = cap' * sz := by rw [← h3, ← g3]
    exact Nat.eq_of_mul_eq_mul_right hsz this
  subst hcap
  rcases hl'.2 with ⟨hx, _⟩ | ⟨k2, cap2, cur2, hx, hk2, hh2, f1, f2, f3, f4⟩
  · simp at hx
  simp only [Value.slice.injEq, Option.some.injEq, Addr.mk.injEq, and_true, true_and] at hx
  obtain ⟨rfl, rfl⟩ := hx
  refine .inr ⟨_, _, cur2, rfl, hk, hh2, h1, h2, f3, ?_⟩
  have hnm : n * sz ≤ m * sz := by rw [← h.1, ← hl.1, ht]; simp
  have e1 : cur2.toList.take (n * sz) = (cur2.toList.take (m * sz)).take (n * sz) := by rw [List.take_take, Nat.min_eq_left hnm]
  rw [e1, f4, ht, ← h.1, List.take_left]

/-- Lists of hv that lie in lv's block are the beginning of what lv holds. -/
def PreP (hv : List (PingD × Value)) (lv : Value) (ys : List Value) : Prop := ∀ x ∈ hv, ∀ g, x.2.ownBlock = some g → lv.ownBlock = some g → ∃ t, ys = pairCells x.1.pairs ++ t

theorem OwnHint.app {w w' : World} {base : Nat} {v lv : Value} {hv : List (PingD × Value)} {m : Nat} {ys : List Value} (h : OwnHint w base v hv) (hl : w.ownsRow base 38 2 lv m ys) (hp : PreP hv lv ys)
    (hg : w.grownBy w' lv.ownBlock) (hl' : w'.ownsRow base 38 2 lv m ys) : OwnHint w' base v hv := by
  refine ⟨?_, ?_, h.apart⟩
  · refine h.row.kept hg ?_
    cases hb : v.ownBlock with
    | none => exact .inl rfl
    | some g => exact .inr (fun e => owns_apart h.row hl (by decide) g hb e.symm)
  · intro x hx
    cases hb : x.2.ownBlock with
    | none => exact (h.each x hx).kept hg (.inl hb)
    | some g =>
      by_cases e : lv.ownBlock = some g
      · obtain ⟨t, ht⟩ := hp x hx g hb e
        exact owns_pre (by decide) (h.each x hx) hl hb e hl' ht
      · exact (h.each x hx).kept hg (.inr (by rw [hb]; exact fun e' => e e'.symm))

theorem PreP.step {w : World} {base : Nat} {v lv lv' : Value} {hv : List (PingD × Value)} {ys news : List Value} (h : OwnHint w base v hv) (hp : PreP hv lv ys) (hf : ∀ g, lv'.ownBlock = some g → lv.ownBlock = some g ∨ w.heap.size ≤ g) : PreP hv lv' (ys ++ news) := by
  intro x hx g hg hg'
  rcases hf g hg' with e | e
  · obtain ⟨t, ht⟩ := hp x hx g hg e
    exact ⟨t ++ news, by rw [ht, List.append_assoc]⟩
  · have := ((h.each x hx).lt g hg).2
    omega

theorem PreP.start {w : World} {base : Nat} {v : Value} {hv : List (PingD × Value)} (h : OwnHint w base v hv) {i : Nat} (hi : i < hv.length) : PreP hv hv[i].2 (pairCells hv[i].1.pairs) := by
  intro x hx g hg hg'
  obtain ⟨j, hj, rfl⟩ := List.getElem_of_mem hx
  by_cases e : j = i
  · subst e; exact ⟨[], by simp⟩
  · exfalso
    rcases Nat.lt_or_gt_of_ne e with hlt | hgt
    · exact List.pairwise_iff_getElem.1 h.apart j i hj hi hlt g hg hg'
    · exact List.pairwise_iff_getElem.1 h.apart i j hi hj hgt g hg' hg

/-- The blocks' list, likewise. -/
theorem OwnHint.appOut {w w' : World} {base : Nat} {v lv : Value} {hv : List (PingD × Value)} {m : Nat} {ys : List Value} (h : OwnHint w base v hv) (hl : w.ownsRow base 33 2 lv m ys) (hp : ∀ g, v.ownBlock = some g → lv.ownBlock = some g → ∃ t, ys = pingCells hv ++ t)
    (hg : w.grownBy w' lv.ownBlock) (hl' : w'.ownsRow base 33 2 lv m ys) : OwnHint w' base v hv := by
  refine ⟨?_, ?_, h.apart⟩
  · cases hb : v.ownBlock with
    | none => exact h.row.kept hg (.inl hb)
    | some g =>
      by_cases e : lv.ownBlock = some g
      · obtain ⟨t, ht⟩ := hp g hb e
        exact owns_pre (by decide) h.row hl hb e hl' ht
      · exact h.row.kept hg (.inr (by rw [hb]; exact fun e' => e e'.symm))
  · intro x hx
    refine (h.each x hx).kept hg ?_
    cases hb : x.2.ownBlock with
    | none => exact .inl rfl
    | some g => exact .inr (fun e => owns_apart (h.each x hx) hl (by decide) g hb e.symm)

theorem owns_frozen {w : World} {B : Nat} {e : TypeId} {sz : Nat} {v : Value} {n : Nat} {xs : List Value} (h : w.ownsRow B e sz v n xs) {g : Nat} (hg : v.ownBlock = some g) (o : Nat) : w.frozen? ⟨g, o, none⟩ = false := by
  rcases h.2 with ⟨rfl, _⟩ | ⟨k, cap, cur, rfl, hk, hh, _⟩
  · simp [Value.ownBlock] at hg
  · simp only [Value.ownBlock, Option.some.injEq] at hg
    subst hg
    simp [World.frozen?, hh]

/-- The k-th block of a hint of one's own: its cells. -/
theorem ownHint_at {w : World} {base : Nat} {ao : Option Addr} {n cap : Nat} {hv : List (PingD × Value)} (h : OwnHint w base (.slice ao n cap) hv) {i : Nat} (hi : i < hv.length) :
    ∃ b, ao = some ⟨b, 0, none⟩ ∧ base ≤ b ∧ w.cell? ⟨b, i * 2, none⟩ = some (.int .i64 hv[i].1.src) ∧ w.cell? ⟨b, i * 2 + 1, none⟩ = some hv[i].2 ∧ ∀ o, w.frozen? ⟨b, o, none⟩ = false := by
  obtain ⟨ao', cap', hv'⟩ := owns_slice h.row
  simp only [Value.slice.injEq] at hv'
  obtain ⟨rfl, rfl, rfl⟩ := hv'
  have hl := pingCells_length hv
  obtain ⟨b, hao, hbs, hb, hc⟩ := owns_cell h.row rfl (i := i * 2) (by omega)
  obtain ⟨b', hao', _, hb', hc'⟩ := owns_cell h.row rfl (i := i * 2 + 1) (by omega)
  have : b = b' := by rw [hb] at hb'; simpa using hb'
  subst this
  obtain ⟨g1, g2⟩ := pingCells_get hv i hi
  refine ⟨b, hao, hbs, ?_, ?_, fun o => owns_frozen h.row hb o⟩
  · rw [hc]; rw [List.getElem?_eq_getElem (by omega)] at g1; exact g1
  · rw [hc']; rw [List.getElem?_eq_getElem (by omega)] at g2; exact g2

/-- The j-th pair of a list of one's own: its cells. -/
theorem owns_pairs_at {w : World} {base : Nat} {so : Option Addr} {n sc : Nat} {ps : List PairD} (h : w.ownsRow base 38 2 (.slice so n sc) ps.length (pairCells ps)) {j : Nat} (hj : j < ps.length) :
    ∃ b, so = some ⟨b, 0, none⟩ ∧ base ≤ b ∧ w.cell? ⟨b, j * 2, none⟩ = some (.int .i64 (preg ps j)) ∧ w.cell? ⟨b, j * 2 + 1, none⟩ = some (.int .i64 (pplace ps j)) ∧ ∀ o, w.frozen? ⟨b, o, none⟩ = false := by
  obtain ⟨ao', cap', hv'⟩ := owns_slice h
  simp only [Value.slice.injEq] at hv'
  obtain ⟨rfl, rfl, rfl⟩ := hv'
  have hl := pairCells_length ps
  obtain ⟨b, hao, hbs, hb, hc⟩ := owns_cell h rfl (i := j * 2) (by omega)
  obtain ⟨b', hao', _, hb', hc'⟩ := owns_cell h rfl (i := j * 2 + 1) (by omega)
  have : b = b' := by rw [hb] at hb'; simpa using hb'
  subst this
  obtain ⟨g1, g2⟩ := pairCells_get ps j hj
  refine ⟨b, hao, hbs, ?_, ?_, fun o => owns_frozen h hb o⟩
  · rw [hc]; rw [List.getElem?_eq_getElem (by omega)] at g1; exact g1
  · rw [hc']; rw [List.getElem?_eq_getElem (by omega)] at g2; exact g2

/-- What is laid behind the end. -/
def pad (l : List Value) : Nat → List Value
  | 0 => []
  | k + 1 => pad l k ++ l

end Go.Proofs.YtblhmeidbjigaabGreatDoor

/- Storing into a hint of one's own. -/
set_option linter.unusedSimpArgs false
set_option linter.unusedVariables false
namespace Go.Proofs.YtblhmeidbjigaabGreatDoor
open Go.RowKit

/-- What lay there has not turned, but for the blocks of S. -/
structure Keep (S : Nat → Prop) (w w' : World) : Prop where
  os : w'.os = w.os
  tape : w'.tape = w.tape
  output : w'.output = w.output
  size : w.heap.size ≤ w'.heap.size
  block : ∀ k, k < w.heap.size → ¬ S k → w'.heap[k]? = w.heap[k]?

theorem Keep.refl (S : Nat → Prop) (w : World) : Keep S w w := ⟨rfl, rfl, rfl, Nat.le_refl _, fun _ _ _ => rfl⟩

theorem Keep.step {S : Nat → Prop} {w a b : World} (h : Keep S w a) (hos : b.os = a.os) (ht : b.tape = a.tape) (ho : b.output = a.output) (hs : a.heap.size ≤ b.heap.size) (hb : ∀ k, k < w.heap.size → ¬ S k → b.heap[k]? = a.heap[k]?) : Keep S w b :=
  ⟨hos.trans h.os, ht.trans h.tape, ho.trans h.output, Nat.le_trans h.size hs, fun k hk hn => (hb k hk hn).trans (h.block k hk hn)⟩

theorem Keep.alloc {S : Nat → Prop} {w a : World} (h : Keep S w a) (o : Obj) : Keep S w (a.alloc o) :=
  h.step rfl rfl rfl (by simp) fun k hk _ => Below.heap_alloc _ _ _ (Nat.lt_of_lt_of_le hk h.size)

theorem Keep.setCell {S : Nat → Prop} {w a : World} (h : Keep S w a) {p : Addr} (hp : S p.block ∨ w.heap.size ≤ p.block) (u : Value) : Keep S w (a.setCell p u) :=
  h.step rfl rfl rfl (by simp) fun k hk hn => Below.heap_setCell _ _ _ _ (fun e => by subst e; rcases hp with hp | hp; exact hn hp; omega)

theorem Keep.grown {S : Nat → Prop} {w a b : World} {row : Option Nat} (h : Keep S w a) (hg : a.grownBy b row) (hr : ∀ g, row = some g → S g ∨ w.heap.size ≤ g) : Keep S w b :=
  h.step hg.os hg.tape hg.output hg.size fun k hk hn => hg.block k (Nat.lt_of_lt_of_le hk h.size) (fun e => by rcases hr k e.symm with hp | hp; exact hn hp; omega)

theorem Keep.below {S : Nat → Prop} {w a b : World} (h : Keep S w a) {B : Nat} (hb : Below B a b) (hB : w.heap.size ≤ B) : Keep S w b :=
  h.step hb.os hb.tape hb.output hb.size fun k hk _ => hb.block k (by omega)

theorem Keep.toBelow {S : Nat → Prop} {w a : World} (h : Keep S w a) {B : Nat} (hB : B ≤ w.heap.size) (hS : ∀ k, S k → B ≤ k) : Below B w a :=
  ⟨h.os, h.tape, h.output, h.size, fun k hk => h.block k (by omega) (fun hk' => by have := hS k hk'; omega)⟩

theorem Keep.cell {S : Nat → Prop} {w a : World} (h : Keep S w a) {b o : Nat} (hb : ¬ S b) {u : Value} (hc : w.cell? ⟨b, o, none⟩ = some u) : a.cell? ⟨b, o, none⟩ = some u :=
  (World.cell?_of_block (w := w) (h.block b (World.block_lt_of_cell? w _ hc) hb)).trans hc

theorem owns_set {w : World} {B : Nat} {e : TypeId} {sz : Nat} {v : Value} {n : Nat} {xs : List Value} (h : w.ownsRow B e sz v n xs) {g i : Nat} (hg : v.ownBlock = some g) (hi : i < xs.length) (u : Value) :
    (w.setCell ⟨g, i, none⟩ u).ownsRow B e sz v n (xs.set i u) := by
  refine ⟨by rw [List.length_set]; exact h.1, ?_⟩
  rcases h.2 with ⟨rfl, _⟩ | ⟨k, cap, cur, rfl, hk, hh, h1, h2, h3, h4⟩
  · simp [Value.ownBlock] at hg
  simp only [Value.ownBlock, Option.some.injEq] at hg
  subst hg
  refine .inr ⟨k, cap, cur.setIfInBounds i u, rfl, hk, heap_setCell_same w k i cur e u hh, h1, h2, by simpa using h3, ?_⟩
  rw [Array.toList_setIfInBounds, List.take_set, h4]

theorem owns_unset {w : World} {B : Nat} {e : TypeId} {sz : Nat} {v : Value} {n : Nat} {xs : List Value} (h : w.ownsRow B e sz v n xs) {g i : Nat} (hg : v.ownBlock ≠ some g) (u : Value) :
    (w.setCell ⟨g, i, none⟩ u).ownsRow B e sz v n xs :=
  owns_same h fun k hk => Below.heap_setCell _ _ _ _ (fun e => hg (by rw [hk, e]))

theorem pingCells_setSrc (hv : List (PingD × Value)) (i : Nat) (hi : i < hv.length) (x : Int) :
    pingCells (hv.set i (⟨x, hv[i].1.pairs⟩, hv[i].2)) = (pingCells hv).set (i * 2) (.int .i64 x) := by
  induction hv generalizing i with
  | nil => simp at hi
  | cons p r ih =>
    cases i with
    | zero => rfl
    | succ i =>
      have h := ih i (by simpa using hi)
      have e1 : (i + 1) * 2 = i * 2 + 1 + 1 := by omega
      rw [e1]
      show [_, _] ++ pingCells (r.set i _) = [_, _] ++ (pingCells r).set (i * 2) _
      rw [← h]
      rfl

theorem pairCells_set (ps : List PairD) (j : Nat) (hj : j < ps.length) (a b : Int) :
    pairCells (ps.set j ⟨a, b⟩) = ((pairCells ps).set (j * 2) (.int .i64 a)).set (j * 2 + 1) (.int .i64 b) := by
  induction ps generalizing j with
  | nil => simp at hj
  | cons p r ih =>
    cases j with
    | zero => rfl
    | succ j =>
      have h := ih j (by simpa using hj)
      have e1 : (j + 1) * 2 = j * 2 + 1 + 1 := by omega
      rw [e1]
      show [_, _] ++ pairCells (r.set j _) = [_, _] ++ ((pairCells r).set (j * 2) _).set (j * 2 + 1) _
      rw [← h]

theorem pingCells_setPairs (hv : List (PingD × Value)) (i : Nat) (hi : i < hv.length) (ps : List PairD) :
    pingCells (hv.set i (⟨hv[i].1.src, ps⟩, hv[i].2)) = pingCells hv := by
  induction hv generalizing i with
  | nil => simp at hi
  | cons p r ih =>
    cases i with
    | zero => rfl
    | succ i =>
      have h := ih i (by simpa using hi)
      show [_, _] ++ pingCells (r.set i _) = [_, _] ++ pingCells r
      rw [← h]
      rfl

theorem apart_set {hv : List (PingD × Value)} {i : Nat} (hi : i < hv.length) (x : PingD) (h : hv.Pairwise fun x y => ∀ g, x.2.ownBlock = some g → y.2.ownBlock ≠ some g) :
    (hv.set i (x, hv[i].2)).Pairwise fun x y => ∀ g, x.2.ownBlock = some g → y.2.ownBlock ≠ some g := by
  rw [List.pairwise_iff_getElem] at *
  have key : ∀ (j : Nat) (hj : j < (hv.set i (x, hv[i].2)).length), ((hv.set i (x, hv[i].2))[j]).2 = (hv[j]'(by simpa using hj)).2 := by
    intro j hj
    rw [List.getElem_set]
    split
    · rename_i e; subst e; rfl
    · rfl
  intro a b ha hb hab
  rw [key a ha, key b hb]
  exact h a b _ _ hab

theorem OwnHint.setSrc {w : World} {base : Nat} {b n cap : Nat} {hv : List (PingD × Value)} (h : OwnHint w base (.slice (some ⟨b, 0, none⟩) n cap) hv) {i : Nat} (hi : i < hv.length) (x : Int) :
    OwnHint (w.setCell ⟨b, i * 2, none⟩ (.int .i64 x)) base (.slice (some ⟨b, 0, none⟩) n cap) (hv.set i (⟨x, hv[i].1.pairs⟩, hv[i].2)) := by
  have hl := pingCells_length hv
  refine ⟨?_, ?_, apart_set hi _ h.apart⟩
  · rw [pingCells_setSrc hv i hi, List.length_set]
    exact owns_set h.row rfl (by omega) _
  · intro y hy
    have keep : ∀ x ∈ hv, (w.setCell ⟨b, i * 2, none⟩ (.int .i64 x.1.src)).ownsRow base 38 2 x.2 x.1.pairs.length (pairCells x.1.pairs) ∧ x.2.ownBlock ≠ some b := by
      intro x hx
      have hne : x.2.ownBlock ≠ some b := fun e => owns_apart h.row (h.each x hx) (by decide) b rfl e
      exact ⟨owns_unset (h.each x hx) hne _, hne⟩
    rcases List.mem_or_eq_of_mem_set hy with hy | rfl
    · exact owns_unset (h.each y hy) (keep y hy).2 _
    · exact owns_unset (h.each _ (List.getElem_mem hi)) (keep _ (List.getElem_mem hi)).2 _

theorem OwnHint.setPair {w : World} {base : Nat} {v : Value} {hv : List (PingD × Value)} (h : OwnHint w base v hv) {i j g : Nat} (hi : i < hv.length) (hg : hv[i].2.ownBlock = some g) (hj : j < hv[i].1.pairs.length) (x y : Int) :
    OwnHint ((w.setCell ⟨g, j * 2, none⟩ (.int .i64 x)).setCell ⟨g, j * 2 + 1, none⟩ (.int .i64 y)) base v (hv.set i (⟨hv[i].1.src, hv[i].1.pairs.set j ⟨x, y⟩⟩, hv[i].2)) := by
  have hl := pairCells_length hv[i].1.pairs
  have hri := h.each _ (List.getElem_mem hi)
  refine ⟨?_, ?_, apart_set hi _ h.apart⟩
  · rw [pingCells_setPairs hv i hi, List.length_set]
    have hne : v.ownBlock ≠ some g := fun e => owns_apart h.row hri (by decide) g e hg
    exact owns_unset (owns_unset h.row hne _) hne _
  · intro z hz
    obtain ⟨k, hk, rfl⟩ := List.getElem_of_mem hz
    have hk' : k < hv.length := by simpa using hk
    rw [List.getElem_set]
    split
    · show World.ownsRow _ base 38 2 hv[i].2 (hv[i].1.pairs.set j ⟨x, y⟩).length (pairCells (hv[i].1.pairs.set j ⟨x, y⟩))
      rw [pairCells_set _ _ hj, List.length_set]
      exact owns_set (owns_set hri hg (by omega) _) hg (by rw [List.length_set]; omega) _
    · rename_i hne
      have hb : hv[k].2.ownBlock ≠ some g := by
        intro e
        rcases Nat.lt_or_gt_of_ne hne with hlt | hgt
        · exact List.pairwise_iff_getElem.1 h.apart i k hi hk' hlt g hg e
        · exact List.pairwise_iff_getElem.1 h.apart k i hk' hi hgt g e hg
      exact owns_unset (owns_unset (h.each _ (List.getElem_mem hk')) hb _) hb _

end Go.Proofs.YtblhmeidbjigaabGreatDoor

/- Rows of memory as lists: made, copied into, written. -/
set_option linter.unusedSimpArgs false
set_option linter.unusedVariables false
namespace Go.Proofs.YtblhmeidbjigaabGreatDoor
open Go.RowKit

/-- Block g is a row of cells xs of type e, none frozen. -/
def Row (w : World) (g : Nat) (e : TypeId) (xs : List Value) : Prop := w.heap[g]? = some (.cells xs.toArray e (0, 0))

/-- Only block g may have turned; no block has come or gone. -/
structure Upd (g : Nat) (w w' : World) : Prop where
  os : w'.os = w.os
  tape : w'.tape = w.tape
  output : w'.output = w.output
  size : w'.heap.size = w.heap.size
  block : ∀ k, k ≠ g → w'.heap[k]? = w.heap[k]?

theorem Upd.below {g B : Nat} {w0 w w' : World} (h : Upd g w w') (hb : Below B w0 w) (hg : B ≤ g) : Below B w0 w' :=
  hb.trans ⟨h.os, h.tape, h.output, Nat.le_of_eq h.size.symm, fun k hk => h.block k (by omega)⟩

theorem Upd.cell {g : Nat} {w w' : World} (h : Upd g w w') {b o : Nat} (hb : b ≠ g) : w'.cell? ⟨b, o, none⟩ = w.cell? ⟨b, o, none⟩ := World.cell?_of_block (w := w) (h.block b hb)

theorem Row.cell {w : World} {g : Nat} {e : TypeId} {xs : List Value} (h : Row w g e xs) {i : Nat} {u : Value} (hi : xs[i]? = some u) : w.cell? ⟨g, i, none⟩ = some u := by
  unfold Row at h
  simp [World.cell?, h, hi]

theorem Row.frozen {w : World} {g : Nat} {e : TypeId} {xs : List Value} (h : Row w g e xs) (i : Nat) : w.frozen? ⟨g, i, none⟩ = false := by
  unfold Row at h
  simp [World.frozen?, h]

theorem Row.lt {w : World} {g : Nat} {e : TypeId} {xs : List Value} (h : Row w g e xs) : g < w.heap.size := (Array.getElem?_eq_some_iff.1 h).1

theorem Row.same {w w' : World} {g : Nat} {e : TypeId} {xs : List Value} (h : Row w g e xs) (hs : w'.heap[g]? = w.heap[g]?) : Row w' g e xs := hs.trans h

theorem Row.below {w w' : World} {g B : Nat} {e : TypeId} {xs : List Value} (h : Row w g e xs) (hb : Below B w w') (hg : g < B) : Row w' g e xs := h.same (hb.block g hg)

theorem Row.keep {w w' : World} {g : Nat} {e : TypeId} {xs : List Value} (h : Row w g e xs) (hb : Below w.heap.size w w') : Row w' g e xs := h.below hb h.lt

theorem Row.alloc {w : World} {g : Nat} {e : TypeId} {xs : List Value} (h : Row w g e xs) (o : Obj) : Row (w.alloc o) g e xs := h.same (Below.heap_alloc w o g h.lt)

theorem Row.set {w : World} {g : Nat} {e : TypeId} {xs : List Value} (h : Row w g e xs) (i : Nat) (u : Value) : Row (w.setCell ⟨g, i, none⟩ u) g e (xs.set i u) := by
  have := heap_setCell_same w g i xs.toArray e u h
  unfold Row
  rw [this]
  simp

theorem Row.unset {w : World} {g : Nat} {e : TypeId} {xs : List Value} (h : Row w g e xs) {a : Addr} (ha : g ≠ a.block) (u : Value) : Row (w.setCell a u) g e xs := h.same (Below.heap_setCell _ _ _ _ ha)

theorem pad_length (l : List Value) (n : Nat) : (pad l n).length = n * l.length := by
  induction n with
  | zero => simp [pad]
  | succ n ih => simp [pad, ih, Nat.add_mul]

theorem pad_get (l : List Value) (n i : Nat) (hi : i < n * l.length) : (pad l n)[i]? = l[i % l.length]? := by
  induction n with
  | zero => omega
  | succ n ih =>
    have hp := pad_length l n
    rw [pad]
    by_cases h : i < n * l.length
    · rw [List.getElem?_append_left (by omega), ih h]
    · rw [List.getElem?_append_right (by omega), hp]
      have h1 : i < n * l.length + l.length := by rw [Nat.add_mul, Nat.one_mul] at hi; exact hi
      have e : i % l.length = i - n * l.length := by
        have : i = (i - n * l.length) + l.length * n := by rw [Nat.mul_comm l.length n]; omega
        rw [this, Nat.add_mul_mod_self_left, Nat.mod_eq_of_lt (by omega)]
        rw [Nat.mul_comm l.length n]; omega
      rw [e]

theorem pad_cons (l : List Value) (n : Nat) : pad l (n + 1) = l ++ pad l n := by
  induction n with
  | zero => simp [pad]
  | succ n ih => rw [pad, ih, List.append_assoc, ← ih, pad]

theorem made_pad (l : List Value) (n : Nat) (hl : 0 < l.length) : madeCells l.toArray (n * l.length) = (pad l n).toArray := by
  apply Array.ext'
  apply List.ext_getElem?
  intro i
  by_cases hi : i < n * l.length
  · have hm : i % l.length < l.length := Nat.mod_lt _ hl
    show _ = (pad l n)[i]?
    rw [pad_get l n i hi]
    simp [madeCells, hi, hm]
  · have h1 : (pad l n).length ≤ i := by rw [pad_length]; omega
    show _ = (pad l n)[i]?
    rw [List.getElem?_eq_none h1]
    simp [madeCells]; omega

section
variable {P : Program} (w : World)

theorem wpList_make_row {ops : Array Oper} {rest : List Oper} {o : Oper} {a : Act} {Q : Exit → Act → World → Prop}
    (hg : o.guard = none) (l c : Operand) (t : TypeId) (hop : o.op = Op.makeSlice t l c)
    (e : TypeId) (i : TypeInfo) (z : Value) (zl : List Value) (h1 : P.underlying t = some (.slice e)) (h2 : P.info? e = some i) (h3 : i.zero = some z) (h4 : i.size = zl.length) (hz : z.cells = zl.toArray) (hzl : 0 < zl.length)
    (kl kc : IntKind) (L C : Int) (n : Nat) (hl : a.eval l = .int kl L) (hc : a.eval c = .int kc C) (hL : L = (n : Int)) (hC : C = (n : Int)) (b2 : i.bytes * n ≤ 281474976710656) (b3 : n ≤ maxLen)
    (hK : ∀ w', Row w' w.heap.size e (pad zl n) → Below w.heap.size w w' → Hid (w'.heap.size = w.heap.size + 1) → wpList P ops Q rest (a.put o.dst (.slice (some ⟨w.heap.size, 0, none⟩) n n)) w') :
    wpList P ops Q (o :: rest) a w := by
  refine wpList_plain hg fun K hK' => ?_
  have h63' : (n : Int) ≤ 9223372036854775807 := by
    have h := b3
    simp [maxLen] at h
    omega
  have hb' : (i.bytes : Int) * (n : Int) ≤ 281474976710656 := by
    have h : ((i.bytes * n : Nat) : Int) ≤ 281474976710656 := by omega
    rwa [Int.natCast_mul] at h
  have hr := run_make (P := P) w t e i z h1 h2 h3 kl kc n n (by omega) (Int.le_refl _) hb' h63'
  simp only [Int.toNat_natCast] at hr
  subst hL
  subst hC
  unfold Oper.wp
  simp [execOp, hop, hl, hc, hr, Result.andThen]
  refine hK' _ _ (hK _ ?_ ((Below.refl _ _).alloc (Nat.le_refl _) _) (by show _ = _; simp))
  unfold Row
  rw [heap_alloc_new, h4, hz, made_pad zl n hzl]

theorem wpList_copy_row {ops : Array Oper} {rest : List Oper} {o : Oper} {a : Act} {Q : Exit → Act → World → Prop} (hgd : o.guard = none) (d s : Operand) (t : TypeId)
    (ho : o.op = .call { callee := .builtin .copy, args := #[d, s], argTypes := #[t, t] }) (e : TypeId) (i : TypeInfo) (h1 : P.underlying t = some (.slice e)) (h2 : P.info? e = some i) (size : Nat) (h4 : i.size = size)
    (g dLen dCap : Nat) (so : Option Addr) (sLen sCap : Nat) (hd : a.eval d = .slice (some ⟨g, 0, none⟩) dLen dCap) (hs : a.eval s = .slice so sLen sCap)
    (xs : List Value) (hrow : Row w g e xs) (cs : List Value) (hn : cs.length = Nat.min sLen dLen * size) (hsrc : so = none → cs = []) (hsrc2 : ∀ ad, so = some ad → ∀ j v, cs[j]? = some v → w.cell? (ad.add j) = some v)
    (hfit : cs.length ≤ xs.length) (hone : ∀ v ∈ cs, v.oneCell' = true)
    (hK : ∀ w', Row w' g e (cs ++ xs.drop cs.length) → Upd g w w' → wpList P ops Q rest (a.put o.dst (goInt (Nat.min sLen dLen))) w') : wpList P ops Q (o :: rest) a w := by
  refine wpList_plain hgd fun K hK' => ?_
  have hst := run_storeCells_at P g 0 e cs 0 xs.toArray w hrow (by simpa using hfit) hone
  have hrun : (Builtin.copy_ #[t, t] o.type #[.slice (some ⟨g, 0, none⟩) dLen dCap, .slice so sLen sCap]).run P w = .ok (goInt (Nat.min sLen dLen)) (w.setRow g (cs ++ xs.drop cs.length).toArray) := by
    cases so with
    | none =>
      have hc := hsrc rfl
      subst hc
      have e0 : w.setRow g xs.toArray = w := setRow_self w g xs.toArray e (0, 0) hrow
      simp [Builtin.copy_, run_underlying h1, Builtin.lenOf, Builtin.firstCells, sizeOf, typeInfo, h2, storeCells, e0]
    | some ad =>
      have hl := run_firstCells_some (P := P) w size (Nat.min sLen dLen) ad sLen sCap cs hn (hsrc2 ad rfl)
      simp only [Nat.zero_add, List.take_zero, List.nil_append] at hst
      simp [Builtin.copy_, run_underlying h1, Builtin.lenOf, sizeOf, typeInfo, h2, h4, hl, hst]
  unfold Oper.wp
  simp [execOp, ho, resolve, invoke, builtin, hd, hs, hrun, Result.andThen]
  refine hK' _ _ (hK _ ?_ ⟨rfl, rfl, rfl, by simp, fun k hk => setRow_other w g k _ hk⟩)
  exact setRow_heap w g _ _ e _ hrow
end

end Go.Proofs.YtblhmeidbjigaabGreatDoor
