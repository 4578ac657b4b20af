/- Texts of hints: what is read is what was written. -/
import Derived.Test.YtdjdjkgoelbbdaaRefJJoined
set_option linter.unusedSimpArgs false
set_option linter.unusedVariables false
namespace Go.Proofs.Ytdjdjkgoelbbdaa
open Go.RowKit

theorem byt_toNat {n : Int} (h0 : 0 ≤ n) (h1 : n < 256) : ((byt n).toNat : Int) = n := by
  unfold byt
  rw [UInt8.toNat_ofNat']
  omega

theorem byt_of (b : UInt8) : byt (b.toNat : Int) = b := by
  unfold byt
  have := b.toNat_lt
  apply UInt8.toNat_inj.1
  rw [UInt8.toNat_ofNat']
  omega

theorem str_size (l : List UInt8) : (str l).size = l.length := by simp [str, ByteArray.size]

theorem byteOr_str {d : Int} {l : List UInt8} {i : Nat} {b : UInt8} (h : l[i]? = some b) : byteOr d (str l) i = b.toNat := by
  have hi : i < l.length := (List.getElem?_eq_some_iff.1 h).1
  have e : l[i] = b := (List.getElem?_eq_some_iff.1 h).2
  unfold byteOr
  rw [if_pos (by rw [str_size]; omega)]
  have : (str l)[(i : Int).toNat]! = b := by
    rw [Int.toNat_natCast, getElem!_pos _ _ (by rw [str_size]; exact hi), ← e]
    rfl
  rw [this]

theorem str_of (s : ByteArray) : s = str s.data.toList := by simp [str]

theorem pairsText_get (ps : List PairD) (i : Nat) (hi : i < ps.length) : (pairsText ps)[i * 2]? = some (byt (preg ps i)) ∧ (pairsText ps)[i * 2 + 1]? = some (byt (pplace ps i)) := by
  induction ps generalizing i with
  | nil => simp at hi
  | cons p r ih =>
    cases i with
    | zero => exact ⟨rfl, rfl⟩
    | succ i =>
      have h := ih i (by simpa using hi)
      have e1 : (i + 1) * 2 = i * 2 + 1 + 1 := by omega
      rw [e1]
      exact h

theorem get_mid {l a b c : List UInt8} {o i : Nat} {x : UInt8} (hl : l = a ++ b ++ c) (ho : a.length = o) (h : b[i]? = some x) : l[o + i]? = some x := by
  have hi : i < b.length := (List.getElem?_eq_some_iff.1 h).1
  subst hl; subst ho
  rw [List.append_assoc, List.getElem?_append_right (by omega), Nat.add_sub_cancel_left, List.getElem?_append_left hi, h]

def pairsOk (ps : List PairD) : Prop := ∀ i, i < ps.length → 0 ≤ preg ps i ∧ preg ps i < 256 ∧ 0 ≤ pplace ps i ∧ pplace ps i < 256

theorem goodPairs_ok : ∀ (ps : List PairD) (last : Int), goodPairs last ps = true → pairsOk ps
  | [], _, _ => fun i hi => by simp at hi
  | p :: r, last, h => by
    simp only [goodPairs, Bool.and_eq_true, below, decide_eq_true_eq] at h
    have ih := goodPairs_ok r _ h.2
    intro i hi
    cases i with
    | zero => show 0 ≤ p.reg ∧ p.reg < 256 ∧ 0 ≤ p.place ∧ p.place < 256; omega
    | succ i => exact ih i (by simpa using hi)

theorem pairD_ext {a b : PairD} (h1 : a.reg = b.reg) (h2 : a.place = b.place) : a = b := by
  cases a; cases b; simp_all

theorem pairsAt_text {d : Int} {l a c : List UInt8} {ps : List PairD} {o : Nat} (hl : l = a ++ pairsText ps ++ c) (ho : a.length = o) (hok : pairsOk ps) (k : Nat) (hk : k ≤ ps.length) : pairsAt d (str l) o k = ps.take k := by
  induction k with
  | zero => rfl
  | succ k ih =>
    have hk' : k < ps.length := by omega
    have hg := pairsText_get ps k hk'
    have ho' := hok k hk'
    have e1 : byteOr d (str l) ((o : Int) + 2 * k) = preg ps k := by
      rw [show (o : Int) + 2 * k = ((o + k * 2 : Nat) : Int) by omega, byteOr_str (get_mid hl ho hg.1), byt_toNat ho'.1 ho'.2.1]
    have e2 : byteOr d (str l) ((o : Int) + 2 * k + 1) = pplace ps k := by
      rw [show (o : Int) + 2 * k + 1 = ((o + (k * 2 + 1) : Nat) : Int) by omega, byteOr_str (get_mid hl ho hg.2), byt_toNat ho'.2.2.1 ho'.2.2.2]
    rw [pairsAt, ih (by omega), e1, e2, take_getD ps pz k hk']
    rfl

theorem hintText_split (h : List PingD) {k : Nat} (hk : k < h.length) :
    hintText h = ([84, 72, byt h.length] ++ (h.take k).flatMap pingText) ++ pingText (h.getD k hz) ++ (h.drop (k + 1)).flatMap pingText := by
  unfold hintText
  have e : h = h.take k ++ (h.getD k hz :: h.drop (k + 1)) := by rw [← drop_getD h hz k hk, List.take_append_drop]
  conv => lhs; arg 2; rw [e]
  simp [List.flatMap_append, List.flatMap_cons]

/-- Where the k-th block begins in the text of h. -/
def offOf (h : List PingD) (k : Nat) : Nat := 3 + ((h.take k).flatMap pingText).length

theorem offOf_succ {h : List PingD} {k : Nat} (hk : k < h.length) : offOf h (k + 1) = offOf h k + 2 + 2 * (hpairs h k).length := by
  unfold offOf
  rw [take_getD h hz k hk, List.flatMap_append]
  simp [pingText_length, hpairs]
  omega

theorem offOf_len (h : List PingD) : (hintText h).length = offOf h h.length := by
  simp [offOf, hintText]; omega

theorem offOf_mono {h : List PingD} {k : Nat} (hk : k < h.length) : offOf h (k + 1) ≤ (hintText h).length := by
  have := hintText_split h hk
  rw [this]
  rw [offOf_succ hk]
  simp [pingText_length, offOf, hpairs]
  omega

/-- What is read at the k-th block of a good hint's text. -/
theorem read_block {d : Int} {h : List PingD} (hg : goodHint h = true) {k : Nat} (hk : k < h.length) :
    byteOr d (str (hintText h)) (offOf h k) = hsrc h k ∧ byteOr d (str (hintText h)) ((offOf h k : Int) + 1) = (hpairs h k).length ∧ pairsAt d (str (hintText h)) ((offOf h k : Int) + 2) (hpairs h k).length = hpairs h k := by
  have hs := hintText_split h hk
  have hp := goodHint_ping hg (h.getD k hz) (getD_mem' hk)
  simp only [goodPing, Bool.and_eq_true, below, decide_eq_true_eq] at hp
  obtain ⟨⟨⟨hs1, hs2⟩, hl⟩, hgp⟩ := hp
  have ho : ([84, 72, byt h.length] ++ (h.take k).flatMap pingText).length = offOf h k := by simp [offOf]; omega
  refine ⟨?_, ?_, ?_⟩
  · have e := byteOr_str (d := d) (get_mid hs ho (i := 0) (x := byt (hsrc h k)) rfl)
    have g1 : 0 ≤ hsrc h k := hs1
    have g2 : hsrc h k < 256 := by show (h.getD k hz).src < 256; omega
    rw [byt_toNat g1 g2] at e
    exact e
  · have e := byteOr_str (d := d) (get_mid hs ho (i := 1) (x := byt (hpairs h k).length) rfl)
    rw [byt_toNat (by omega) (by show ((h.getD k hz).pairs.length : Int) < 256; omega)] at e
    rw [show (offOf h k : Int) + 1 = ((offOf h k + 1 : Nat) : Int) by omega]
    exact e
  · have hs' : hintText h = ([84, 72, byt h.length] ++ (h.take k).flatMap pingText ++ [byt (hsrc h k), byt (hpairs h k).length]) ++ pairsText (hpairs h k) ++ (h.drop (k + 1)).flatMap pingText := by
      rw [hs]; simp [pingText, hsrc, hpairs]
    rw [show (offOf h k : Int) + 2 = ((offOf h k + 2 : Nat) : Int) by omega]
    rw [pairsAt_text hs' (by rw [List.length_append, ho]; rfl) (goodPairs_ok _ _ hgp) _ (Nat.le_refl _), List.take_length]

theorem read_head {d : Int} {h : List PingD} (hg : goodHint h = true) : byteOr d (str (hintText h)) 0 = 84 ∧ byteOr d (str (hintText h)) 1 = 72 ∧ byteOr d (str (hintText h)) 2 = h.length := by
  have hl := goodHint_len hg
  refine ⟨?_, ?_, ?_⟩
  · exact byteOr_str (i := 0) (b := 84) rfl
  · exact byteOr_str (i := 1) (b := 72) rfl
  · have e := byteOr_str (d := d) (l := hintText h) (i := 2) (b := byt h.length) rfl
    rw [byt_toNat (by omega) (by omega)] at e
    exact e

theorem pingD_ext {a b : PingD} (h1 : a.src = b.src) (h2 : a.pairs = b.pairs) : a = b := by
  cases a; cases b; simp_all

theorem cod_reads {h : List PingD} (hg : goodHint h = true) (k : Nat) (hk : k ≤ h.length) : atOf (str (hintText h)) k = offOf h k ∧ pingsOf (str (hintText h)) k = h.take k := by
  induction k with
  | zero => exact ⟨rfl, rfl⟩
  | succ k ih =>
    obtain ⟨e1, e2⟩ := ih (by omega)
    obtain ⟨r1, r2, r3⟩ := read_block (d := -1) hg (show k < h.length by omega)
    constructor
    · rw [atOf, e1, r2, offOf_succ (by omega), Int.toNat_natCast]; omega
    · rw [pingsOf, e2, e1, take_getD h hz k (by omega)]
      congr 2
      simp only [pingAt, r1, r2, Int.toNat_natCast, r3]
      rfl

theorem ref_reads {h : List PingD} (hg : goodHint h = true) (k : Nat) (hk : k ≤ h.length) : rAt (str (hintText h)) k = offOf h k ∧ rPings (str (hintText h)) k = h.take k := by
  induction k with
  | zero => exact ⟨rfl, rfl⟩
  | succ k ih =>
    obtain ⟨e1, e2⟩ := ih (by omega)
    obtain ⟨r1, r2, r3⟩ := read_block (d := 0) hg (show k < h.length by omega)
    have hm := offOf_mono (show k < h.length by omega)
    have hsu := offOf_succ (show k < h.length by omega)
    have hj : jst (str (hintText h)).size ((offOf h k : Int) + 2) (hpairs h k).length = (hpairs h k).length := by
      unfold jst
      rw [str_size]
      omega
    constructor
    · rw [rAt, e1, r2, Int.toNat_natCast, hj, hsu]; omega
    · rw [rPings, e2, e1, r2, Int.toNat_natCast, hj, r1, r3, take_getD h hz k (by omega)]
      rfl

theorem ref_stops {h : List PingD} (hg : goodHint h = true) {i : Nat} (hi : RStop (str (hintText h)) i) : rPings (str (hintText h)) i = h := by
  obtain ⟨_, _, h2⟩ := read_head (d := 0) hg
  have : i = h.length := by
    rcases Nat.lt_trichotomy i h.length with hlt | heq | hgt
    · exfalso
      apply hi.stop
      rw [h2, (ref_reads hg i (by omega)).1, str_size]
      have := offOf_mono hlt
      have := offOf_succ hlt
      omega
    · exact heq
    · have := (hi.done h.length hgt).1
      rw [h2] at this
      omega
  subst this
  rw [(ref_reads hg _ (Nat.le_refl _)).2, List.take_length]

/-! ### Back: what was read, written again -/

theorem byteOr_in {d : Int} {s : ByteArray} {i : Nat} (hi : i < s.size) : byteOr d s i = (s.data.toList[i]'(by simpa using hi)).toNat := by
  have h : s.data.toList[i]? = some (s.data.toList[i]'(by simpa using hi)) := List.getElem?_eq_getElem _
  have := byteOr_str (d := d) h
  rwa [← str_of] at this

/-- A stretch of a text. -/
def seg (s : ByteArray) (i n : Nat) : List UInt8 := (s.data.toList.drop i).take n

theorem seg_two {s : ByteArray} {i : Nat} (h : i + 1 < s.size) : seg s i 2 = [byt (byteOr (-1) s i), byt (byteOr (-1) s ((i : Int) + 1))] := by
  have hl : s.data.toList.length = s.size := Array.length_toList
  rw [show (i : Int) + 1 = ((i + 1 : Nat) : Int) by omega, byteOr_in (show i < s.size by omega), byteOr_in h, byt_of, byt_of]
  unfold seg
  rw [List.drop_eq_getElem_cons (by omega), List.drop_eq_getElem_cons (by omega)]
  rfl

theorem seg_add (s : ByteArray) (i n m : Nat) : seg s i (n + m) = seg s i n ++ seg s (i + n) m := by
  unfold seg
  rw [List.take_add, List.drop_drop]

theorem pairs_seg {s : ByteArray} {o : Nat} (k : Nat) (h : o + 2 * k ≤ s.size) : pairsText (pairsAt (-1) s o k) = seg s o (2 * k) := by
  induction k with
  | zero => simp [pairsAt, pairsText, seg]
  | succ k ih =>
    rw [show 2 * (k + 1) = 2 * k + 2 by omega, seg_add, ← ih (by omega), seg_two (by omega)]
    simp only [pairsAt, pairsText, List.flatMap_append, List.flatMap_cons, List.flatMap_nil, List.append_nil]
    rw [show ((o + 2 * k : Nat) : Int) = (o : Int) + 2 * k by omega]

theorem pingsOf_length (s : ByteArray) (k : Nat) : (pingsOf s k).length = k := by
  induction k with
  | zero => rfl
  | succ k ih => simp [pingsOf, ih]

theorem atOf_mono (s : ByteArray) {i j : Nat} (h : i ≤ j) : atOf s i ≤ atOf s j := by
  induction j with
  | zero => obtain rfl : i = 0 := by omega
            exact Int.le_refl _
  | succ j ih =>
    by_cases e : i = j + 1
    · subst e; exact Int.le_refl _
    · have := ih (by omega)
      simp only [atOf]
      omega

theorem pings_seg {s : ByteArray} (k : Nat) (h : atOf s k ≤ s.size) : (pingsOf s k).flatMap pingText = seg s 3 (atOf s k - 3).toNat := by
  induction k with
  | zero => simp [pingsOf, atOf, seg]
  | succ k ih =>
    have hb := atOf_bd s k
    have hm := atOf_mono s (show k ≤ k + 1 by omega)
    obtain ⟨a, ha⟩ := Int.eq_ofNat_of_zero_le (show 0 ≤ atOf s k by omega)
    have hstep : atOf s (k + 1) = atOf s k + (2 + 2 * (byteOr (-1) s (atOf s k + 1)).toNat) := rfl
    generalize hm' : (byteOr (-1) s (atOf s k + 1)).toNat = m at hstep
    have hcnt : byteOr (-1) s (atOf s k + 1) = m := by
      rw [ha, show (a : Int) + 1 = ((a + 1 : Nat) : Int) by omega, byteOr_in (by omega)] at hm' ⊢
      omega
    have e3 : (atOf s (k + 1) - 3).toNat = (atOf s k - 3).toNat + (2 + 2 * m) := by omega
    rw [pingsOf, List.flatMap_append, ih (by omega), e3, seg_add, seg_add]
    have ea : 3 + (atOf s k - 3).toNat = a := by omega
    rw [ea]
    congr 1
    simp only [List.flatMap_cons, List.flatMap_nil, List.append_nil, pingText, pingAt, pairsAt_length]
    rw [hcnt, Int.toNat_natCast, ha, seg_two (by omega)]
    congr 1
    · rw [← ha, hcnt]
    · rw [show (a : Int) + 2 = ((a + 2 : Nat) : Int) by omega]
      exact pairs_seg m (by omega)

theorem cod_text {s : ByteArray} (h : readsHint s = true) : str (hintText (pingsOf s (byteOr (-1) s 2).toNat)) = s := by
  simp only [readsHint, Bool.and_eq_true, decide_eq_true_eq] at h
  obtain ⟨⟨⟨h0, h1⟩, h2⟩, h3⟩ := h
  have hb := atOf_bd s (byteOr (-1) s 2).toNat
  have hl : s.data.toList.length = s.size := Array.length_toList
  have hc : ((byteOr (-1) s 2).toNat : Int) = byteOr (-1) s 2 := by
    have e : byteOr (-1) s ((2 : Nat) : Int) = _ := byteOr_in (d := -1) (show 2 < s.size by omega)
    have e' : byteOr (-1) s 2 = _ := e
    rw [e']
    omega
  have hs := pings_seg (s := s) (byteOr (-1) s 2).toNat (by omega)
  unfold hintText
  rw [hs, pingsOf_length, hc]
  have e2 := seg_two (s := s) (i := 0) (by omega)
  have e3 : seg s 2 1 = [byt (byteOr (-1) s 2)] := by
    have e : byteOr (-1) s ((2 : Nat) : Int) = _ := byteOr_in (d := -1) (show 2 < s.size by omega)
    have e' : byteOr (-1) s 2 = _ := e
    rw [e', byt_of]
    unfold seg
    rw [List.drop_eq_getElem_cons (by omega)]
    rfl
  have z0 : byteOr (-1) s ((0 : Nat) : Int) = 84 := h0
  have z1 : byteOr (-1) s (((0 : Nat) : Int) + 1) = 72 := h1
  rw [z0, z1] at e2
  have f0 : seg s 0 s.size = s.data.toList := by unfold seg; rw [List.drop_zero, ← hl, List.take_length]
  have f1 : s.size = 2 + (1 + (atOf s (byteOr (-1) s 2).toNat - 3).toNat) := by omega
  rw [f1, seg_add, seg_add, e2, e3] at f0
  have f2 : [84, 72, byt (byteOr (-1) s 2)] ++ seg s 3 (atOf s (byteOr (-1) s 2).toNat - 3).toNat = s.data.toList := by
    rw [← f0]; rfl
  rw [f2, ← str_of]

/-! ### The two contracts, in the document's words -/

theorem cDecodeHint_any (s : ByteArray) (w : World) (hs : s.size ≤ maxLen) :
    Calls Try.prog 58 #[.string s] w fun e w' => ((∃ v hv, e = .returned (.tuple #[.agg #[v], .int .i64 0]) ∧ OwnHint w' w.heap.size v hv ∧ goodHint (hdat hv) = true ∧ str (hintText (hdat hv)) = s) ∨
      ((∀ h, goodHint h = true → str (hintText h) ≠ s) ∧ e = .returned (.tuple #[.agg #[.slice none 0 0], .int .i64 2]))) ∧ Below w.heap.size w w' := by
  refine cDecodeHint_cps s w hs _ ?_ ?_
  · intro v hv w' hr ho hd hb
    refine ⟨.inl ⟨v, hv, rfl, ho, ?_, ?_⟩, hb⟩
    · rw [hd]; simp only [readsHint, Bool.and_eq_true] at hr; exact hr.2
    · rw [hd]; exact cod_text hr
  · intro w' hr hb
    refine ⟨.inr ⟨?_, rfl⟩, hb⟩
    intro h hg he
    subst he
    obtain ⟨r0, r1, r2⟩ := read_head (d := -1) hg
    have := cod_reads hg h.length (Nat.le_refl _)
    simp only [readsHint, r0, r1, r2, Int.toNat_natCast, this.1, this.2, List.take_length, hg, str_size, offOf_len] at hr
    simp at hr

theorem rDecodeHint_any (s : ByteArray) (w : World) (hs : s.size ≤ maxLen) :
    Calls Try.prog 48 #[.string s] w fun e w' => ((∃ v hv, e = .returned (.tuple #[.agg #[v], .bool true]) ∧ OwnHint w' w.heap.size v hv ∧ goodHint (hdat hv) = true ∧ str (hintText (hdat hv)) = s) ∨
      ((∀ h, goodHint h = true → str (hintText h) ≠ s) ∧ e = .returned (.tuple #[.agg #[.slice none 0 0], .bool false]))) ∧ Below w.heap.size w w' := by
  refine rDecodeHint_cps s w hs _ ?_ ?_
  · intro v hv w' i _ ho hd hg ht hb
    exact ⟨.inl ⟨v, hv, rfl, ho, hg, ht⟩, hb⟩
  · intro w' i hst hr hb
    refine ⟨.inr ⟨?_, rfl⟩, hb⟩
    intro h hg he
    subst he
    have := ref_stops hg hst
    rw [this] at hr
    exact hr hg rfl

/-- A text is the text of one hint at most. -/
theorem hint_one {h g : List PingD} (hh : goodHint h = true) (hg : goodHint g = true) (e : str (hintText h) = str (hintText g)) : h = g := by
  have a := read_head (d := -1) hh
  have b := read_head (d := -1) hg
  have c := cod_reads hh h.length (Nat.le_refl _)
  have d := cod_reads hg g.length (Nat.le_refl _)
  have hl : h.length = g.length := by have := a.2.2; rw [e, b.2.2] at this; omega
  have x := c.2
  rw [e, hl, d.2, List.take_length, ← hl, List.take_length] at x
  exact x.symm

end Go.Proofs.Ytdjdjkgoelbbdaa

/- Comparing hints, in the laws. -/
set_option linter.unusedSimpArgs false
set_option linter.unusedVariables false
namespace Go.Proofs.Ytdjdjkgoelbbdaa
open Go.RowKit

set_option maxRecDepth 100000 in
set_option maxHeartbeats 1000000 in
theorem samePairs_any (v u : Value) (ps : List PairD) (w : World) (hv : RdPairs w v ps) (hu : RdPairs w u ps) :
    Calls Try.prog 75 #[v, u] w fun e w' => e = .returned (.bool true) ∧ Below w.heap.size w w' := by
  obtain ⟨ao, cap, rfl, hl, hc⟩ := hv
  obtain ⟨bo, cap2, rfl, _, hd⟩ := hu
  go_enter Try.func75, Try.ntmps75
  go_wp2
  go_loopw [5] (fun i wr => ∃ (k : Nat), k ≤ ps.length ∧ i = .int .i64 k ∧ Below w.heap.size w wr)
    (fun i _ => ps.length - (intOf i).toNat)
  case atStart => exact ⟨0, Nat.zero_le _, rfl, Below.refl _ _⟩
  case round =>
    obtain ⟨k, hk, rfl, hbel⟩ := hrel
    by_cases hlt : k < ps.length
    · obtain ⟨b, off, rfl, c1, c2⟩ := hc k hlt
      obtain ⟨b', off', rfl, d1, d2⟩ := hd k hlt
      have e1 := cell_keep hbel c1
      have e2 := cell_keep hbel c2
      have e3 := cell_keep hbel d1
      have e4 := cell_keep hbel d2
      go_wp2
      go_quiet (fail)
      go_wp2
      go_roundw
      case rel => exact ⟨k + 1, by omega, by go_num, below_drewN hbel _⟩
      case measure => simp [intOf]; omega
    · go_wp2
      go_ret
      exact ⟨rfl, hbel⟩

set_option maxRecDepth 100000 in
set_option maxHeartbeats 1000000 in
theorem sameHint_any (v u : Value) (h : List PingD) (w : World) (hv : RdHint w v h) (hu : RdHint w u h) :
    Calls Try.prog 49 #[.agg #[v], .agg #[u]] w fun e w' => e = .returned (.bool true) ∧ Below w.heap.size w w' := by
  obtain ⟨ao, cap, rfl, hl, hc⟩ := hv
  obtain ⟨bo, cap2, rfl, _, hd⟩ := hu
  go_enter Try.func49, Try.ntmps49
  go_wp2
  go_loopw [5] (fun i wr => ∃ (k : Nat), k ≤ h.length ∧ i = .int .i64 k ∧ Below (w.heap.size + 2) ((w.alloc (.cells #[.slice ao h.length cap] 31)).alloc (.cells #[.slice bo h.length cap2] 31)) wr)
    (fun i _ => h.length - (intOf i).toNat)
  case atStart => exact ⟨0, Nat.zero_le _, rfl, Below.refl _ _⟩
  case round =>
    obtain ⟨k, hk, rfl, hbel⟩ := hrel
    have hb0 : Below w.heap.size w wr := (((Below.refl w.heap.size w).alloc (Nat.le_refl _) _).alloc (by simp) _).trans (hbel.mono (by omega))
    have x0 : wr.cell? ⟨w.heap.size, 0, none⟩ = some (.slice ao h.length cap) := (hbel.cell (by simp)).trans (by simp)
    have x1 : wr.cell? ⟨w.heap.size + 1, 0, none⟩ = some (.slice bo h.length cap2) := (hbel.cell (by simp)).trans (by simp)
    have hz := hbel.size
    simp at hz
    by_cases hlt : k < h.length
    · obtain ⟨b, off, sv, rfl, c1, c2, c3⟩ := hc k hlt
      obtain ⟨b', off', tv, rfl, d1, d2, d3⟩ := hd k hlt
      have e1 := cell_keep hb0 c1
      have e2 := cell_keep hb0 c2
      have e3 := cell_keep hb0 d1
      have e4 := cell_keep hb0 d2
      have r1 := c3.keep hb0
      have r2 := d3.keep hb0
      have q0 := fun x : Past wr.heap.size wr => x.cell x0
      have q1 := fun x : Past wr.heap.size wr => x.cell x1
      have q2 := fun x : Past wr.heap.size wr => x.cell e2
      have q3 := fun x : Past wr.heap.size wr => x.cell e4
      have np := Past.any wr.heap.size wr
      go_wp2
      refine wp_region_past wr.heap.size (by kernel_rfl) (by kernel_rfl) ?_
      repeat (go_big_quiet_step (exact Calls.past_of (Nat.le_refl _) (samePairs_any _ _ _ _ (r1.keep (Past.ok _)) (r2.keep (Past.ok _)))))
      refine wpQuiet_nil ?_
      rintro _ ⟨x, rfl⟩
      have y0 := x.cell x0
      have y1 := x.cell x1
      have y2 := x.cell e1
      have y3 := x.cell e3
      have hb1 := hbel.trans (x.ok.mono (by omega))
      generalize x.wd = w1 at *
      clear q0 q1 q2 q3 np
      go_wp2
      go_quiet (fail)
      go_wp2
      go_roundw
      case rel => exact ⟨k + 1, by omega, by go_num, below_drewN hb1 _⟩
      case measure => simp [intOf]; omega
    · go_wp2
      go_ret
      exact ⟨rfl, hb0⟩

end Go.Proofs.Ytdjdjkgoelbbdaa
