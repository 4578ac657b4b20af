/- Hints in the codec: what each call gives. -/
import Derived.Test.YtdjdjkgoelbbdaaCodAToDat
set_option linter.unusedSimpArgs false
set_option linter.unusedVariables false
namespace Go.Proofs.Ytdjdjkgoelbbdaa
open Go.RowKit

set_option maxHeartbeats 1000000 in
theorem wmPairing_any (src : Int) (sv : Value) (ps : List PairD) (w : World) (hr : RdPairs w sv ps) :
    Calls Try.prog 100 #[.agg #[.int .i64 src, sv]] w fun e w' => e = .returned (.bool (goodPing ⟨src, ps⟩)) ∧ Below w.heap.size w w' := by
  obtain ⟨ao, cap, rfl, hl, hc⟩ := hr
  obtain ⟨G, hG⟩ : ∃ G, goodPing ⟨src, ps⟩ = G := ⟨_, rfl⟩
  rw [hG]
  cases h1 : below src 6
  · have hGf : G = false := by rw [← hG]; simp [goodPing, h1]
    subst hGf
    clear hG
    go_enter Try.func100, Try.ntmps100
    go_wp2_with (go_at_call 98; refine (isBelow_any _ _ _).mono ?_; rintro e w' ⟨rfl, rfl⟩)
    go_ret
    exact ⟨rfl, (Below.refl _ _).alloc (Nat.le_refl _) _⟩
  by_cases h2 : (16 : Int) < ps.length
  · have hGf : G = false := by rw [← hG]; simp [goodPing, h1]; omega
    subst hGf
    clear hG
    go_enter Try.func100, Try.ntmps100
    go_wp2_with (go_at_call 98; refine (isBelow_any _ _ _).mono ?_; rintro e w' ⟨rfl, rfl⟩)
    go_ret
    exact ⟨rfl, (Below.refl _ _).alloc (Nat.le_refl _) _⟩
  have HG : Hid (G = gFrom ps (-1) 0) := by show G = _; rw [← hG]; simp [goodPing, h1, gFrom, show ps.length ≤ 16 by omega]
  clear hG
  go_enter Try.func100, Try.ntmps100
  go_wp2_with (go_at_call 98; refine (isBelow_any _ _ _).mono ?_; rintro e w' ⟨rfl, rfl⟩)
  go_loopw [3, 4] (fun l i wr => ∃ (k : Nat) (last : Int), k ≤ ps.length ∧ i = .int .i64 k ∧ l = .int .i64 last ∧ Hid (G = gFrom ps last k) ∧ Below (w.heap.size + 1) (w.alloc (.cells #[.int .i64 src, .slice ao ps.length cap] 82)) wr)
    (fun _ i _ => ps.length - (intOf i).toNat)
  case atStart => exact ⟨0, -1, Nat.zero_le _, rfl, rfl, HG, Below.refl _ _⟩
  case round =>
    obtain ⟨k, last, hk, rfl, rfl, hg, hbel⟩ := hrel
    have hx0 : wr.cell? ⟨w.heap.size, 0, none⟩ = some (.int .i64 src) := (hbel.cell (by simp)).trans (by simp)
    have hx1 : wr.cell? ⟨w.heap.size, 1, none⟩ = some (.slice ao ps.length cap) := (hbel.cell (by simp)).trans (by simp)
    have hz := hbel.size
    by_cases hlt : k < ps.length
    · obtain ⟨b, off, rfl, hc1, hc2⟩ := hc k hlt
      have hd1 := cell_keep (Below.under hbel) hc1
      have hd2 := cell_keep (Below.under hbel) hc2
      have HS : Hid (gFrom ps last k = (below (preg ps k) 8 && below (pplace ps k) 16 && decide (last < pplace ps k) && gFrom ps (pplace ps k) (k + 1))) := gFrom_step hlt
      cases h3 : below (preg ps k) 8
      · have hGf : G = false := by rw [hg.out, HS.out, h3]; rfl
        subst hGf
        clear hg HS HG
        go_wp2_with (go_at_call 98; refine (isBelow_any _ _ _).mono ?_; rintro e w' ⟨rfl, rfl⟩)
        go_ret
        exact ⟨rfl, (Below.under hbel).alloc (by simp at hz; omega) _⟩
      cases h4 : below (pplace ps k) 16
      · have hGf : G = false := by rw [hg.out, HS.out, h3, h4]; rfl
        subst hGf
        clear hg HS HG
        go_wp2_with (go_at_call 98; refine (isBelow_any _ _ _).mono ?_; rintro e w' ⟨rfl, rfl⟩)
        go_ret
        exact ⟨rfl, (Below.under hbel).alloc (by simp at hz; omega) _⟩
      by_cases h5 : last < pplace ps k
      · have hG' : Hid (G = gFrom ps (pplace ps k) (k + 1)) := by show G = _; rw [hg.out, HS.out, h3, h4]; simp [h5]
        clear hg HS HG
        go_wp2_with (go_at_call 98; refine (isBelow_any _ _ _).mono ?_; rintro e w' ⟨rfl, rfl⟩)
        go_roundw
        case rel => exact ⟨k + 1, _, by omega, by go_num, rfl, hG', hbel.alloc (by simp at hz; omega) _⟩
        case measure => simp [intOf]; omega
      · have hGf : G = false := by rw [hg.out, HS.out, h3, h4]; simp [h5]
        subst hGf
        clear hg HS HG
        go_wp2_with (go_at_call 98; refine (isBelow_any _ _ _).mono ?_; rintro e w' ⟨rfl, rfl⟩)
        go_ret
        exact ⟨rfl, (Below.under hbel).alloc (by simp at hz; omega) _⟩
    · have hGt : G = true := by rw [hg.out, gFrom_end (by omega)]
      subst hGt
      clear hg HG
      go_wp2
      go_ret
      exact ⟨rfl, Below.under hbel⟩

set_option maxHeartbeats 1000000 in
theorem wmHint_any (v : Value) (h : List PingD) (w : World) (hr : RdHint w v h) :
    Calls Try.prog 88 #[.agg #[v]] w fun e w' => e = .returned (.bool (goodHint h)) ∧ Below w.heap.size w w' := by
  have hr0 := hr
  obtain ⟨ao, cap, rfl, hl, hc⟩ := hr
  obtain ⟨G, hG⟩ : ∃ G, goodHint h = G := ⟨_, rfl⟩
  rw [hG]
  by_cases h1 : (h.length : Int) < 1
  · have hGf : G = false := by rw [← hG]; simp [goodHint]; omega
    subst hGf
    clear hG
    go_enter Try.func88, Try.ntmps88
    go_wp2
    go_ret
    exact ⟨rfl, (Below.refl _ _).alloc (Nat.le_refl _) _⟩
  by_cases h2 : (6 : Int) < h.length
  · have hGf : G = false := by rw [← hG]; simp [goodHint]; omega
    subst hGf
    clear hG
    go_enter Try.func88, Try.ntmps88
    go_wp2
    go_ret
    exact ⟨rfl, (Below.refl _ _).alloc (Nat.le_refl _) _⟩
  have HG : Hid (G = gpFrom h 0) := by show G = _; rw [← hG]; simp [goodHint, gpFrom, show 1 ≤ h.length ∧ h.length ≤ 6 by omega]
  clear hG
  go_enter Try.func88, Try.ntmps88
  go_wp2
  go_loopw [3] (fun i wr => ∃ (k : Nat), k ≤ h.length ∧ i = .int .i64 k ∧ Hid (G = gpFrom h k) ∧ Below (w.heap.size + 1) (w.alloc (.cells #[.slice ao h.length cap] 31)) wr)
    (fun i _ => h.length - (intOf i).toNat)
  case atStart => exact ⟨0, Nat.zero_le _, rfl, HG, Below.refl _ _⟩
  case round =>
    obtain ⟨k, hk, rfl, hg, hbel⟩ := hrel
    have hx0 : wr.cell? ⟨w.heap.size, 0, none⟩ = some (.slice ao h.length cap) := (hbel.cell (by simp)).trans (by simp)
    have hz := hbel.size
    by_cases hlt : k < h.length
    · obtain ⟨b, off, sv, rfl, hc1, hc2, hc3⟩ := hc k hlt
      have hd1 := cell_keep (Below.under hbel) hc1
      have hd2 := cell_keep (Below.under hbel) hc2
      have hd3 := hc3.keep (Below.under hbel)
      have HS : Hid (gpFrom h k = (goodPing ⟨hsrc h k, hpairs h k⟩ && gpFrom h (k + 1))) := gpFrom_step hlt
      cases h3 : goodPing ⟨hsrc h k, hpairs h k⟩
      · have hGf : G = false := by rw [hg.out, HS.out, h3]; rfl
        subst hGf
        clear hg HS HG
        go_wp2_with fail
        refine (wmPairing_any _ _ _ _ hd3).mono ?_
        rintro e w' ⟨rfl, hb2⟩
        go_wp2
        go_ret
        exact ⟨rfl, (Below.under hbel).trans (hb2.mono (by simp at hz; omega))⟩
      · have hG' : Hid (G = gpFrom h (k + 1)) := by show G = _; rw [hg.out, HS.out, h3]; rfl
        clear hg HS HG
        go_wp2_with fail
        refine (wmPairing_any _ _ _ _ hd3).mono ?_
        rintro e w' ⟨rfl, hb2⟩
        go_wp2
        go_roundw
        case rel => exact ⟨k + 1, by omega, by go_num, hG', hbel.trans (hb2.mono (by simp at hz; omega))⟩
        case measure => simp [intOf]; omega
    · have hGt : G = true := by rw [hg.out, gpFrom_end (by omega)]
      subst hGt
      clear hg HG
      go_wp2
      go_ret
      exact ⟨rfl, Below.under hbel⟩

end Go.Proofs.Ytdjdjkgoelbbdaa

/- The text of a hint in the codec. -/
set_option linter.unusedSimpArgs false
set_option linter.unusedVariables false
namespace Go.Proofs.Ytdjdjkgoelbbdaa
open Go.RowKit

set_option maxHeartbeats 1000000 in
theorem pairingText_any (src : Int) (sv : Value) (ps : List PairD) (w : World) (hr : RdPairs w sv ps) (hn : ps.length ≤ 16) :
    Calls Try.prog 89 #[.agg #[.int .i64 src, sv]] w fun e w' => e = .returned (.string (str (pingText ⟨src, ps⟩))) ∧ Below w.heap.size w w' := by
  obtain ⟨ao, cap, rfl, hl, hc⟩ := hr
  obtain ⟨G, hG⟩ : ∃ G, str (pingText ⟨src, ps⟩) = G := ⟨_, rfl⟩
  rw [hG]
  have HG : Hid (str (pingText ⟨src, ps⟩) = G) := hG
  clear hG
  go_enter Try.func89, Try.ntmps89
  go_wp2_with fail
  refine (twoBytes_any _ _ _).mono ?_
  rintro e w1 ⟨rfl, hb1⟩
  have h0 : (⟨#[byt src, byt ps.length]⟩ : ByteArray) = pingTo src ps 0 := rfl
  rw [h0]
  have hb1' : Below (w.heap.size + 1) (w.alloc (.cells #[.int .i64 src, .slice ao ps.length cap] 82)) w1 := by simpa using hb1
  clear hb1 h0
  go_wp2
  go_loopw [3, 4] (fun l i wr => ∃ (k : Nat), k ≤ ps.length ∧ i = .int .i64 k ∧ l = .string (pingTo src ps k) ∧ Below (w.heap.size + 1) (w.alloc (.cells #[.int .i64 src, .slice ao ps.length cap] 82)) wr)
    (fun _ i _ => ps.length - (intOf i).toNat)
  case atStart => exact ⟨0, Nat.zero_le _, rfl, rfl, hb1'⟩
  case round =>
    obtain ⟨k, hk, rfl, rfl, hbel⟩ := hrel
    have hx1 : wr.cell? ⟨w.heap.size, 1, none⟩ = some (.slice ao ps.length cap) := (hbel.cell (by simp)).trans (by simp)
    have hz := hbel.size
    by_cases hlt : k < ps.length
    · obtain ⟨b, off, rfl, hc1, hc2⟩ := hc k hlt
      have hd1 := cell_keep (Below.under hbel) hc1
      have hd2 := cell_keep (Below.under hbel) hc2
      have q0 := fun x : Past wr.heap.size wr => x.cell hx1
      have q1 := fun x : Past wr.heap.size wr => x.cell hd1
      have q2 := fun x : Past wr.heap.size wr => x.cell hd2
      have hsz : (pingTo src ps k).size ≤ 100 := by rw [pingTo_size _ _ _ hk]; omega
      have np := Past.any wr.heap.size wr
      go_wp2
      refine wp_region_past wr.heap.size (by kernel_rfl) (by kernel_rfl) ?_
      repeat (go_big_quiet_step (exact Calls.past_of (Nat.le_refl _) (twoBytes_any _ _ _)))
      refine wpQuiet_nil ?_
      rintro _ ⟨x, rfl⟩
      have hb2 := hbel.trans (x.ok.mono (by simp at hz; omega))
      clear q0 q1 q2 np hd1 hd2 hx1
      have HS : Hid (pingTo src ps (k + 1) = pingTo src ps k ++ ⟨#[byt (preg ps k), byt (pplace ps k)]⟩) := pingTo_step hlt
      go_wp2
      go_roundw
      case rel => exact ⟨k + 1, by omega, by go_num, by rw [HS.out], hb2⟩
      case measure => simp [intOf]; omega
    · have he : pingTo src ps k = G := (pingTo_end (by omega)).trans HG.out
      go_wp2
      go_ret
      exact ⟨by simp [he], Below.under hbel⟩

set_option maxHeartbeats 1000000 in
theorem cEncodeHint_any (v : Value) (h : List PingD) (w : World) (hr : RdHint w v h) :
    Calls Try.prog 59 #[.agg #[v]] w fun e w' => e = .returned (.tuple (if goodHint h then #[.string (str (hintText h)), .int .i64 0] else #[.string ⟨#[]⟩, .int .i64 2])) ∧ Below w.heap.size w w' := by
  have hr0 := hr
  obtain ⟨ao, cap, rfl, hl, hc⟩ := hr
  cases hg : goodHint h
  · go_enter Try.func59, Try.ntmps59
    go_wp2_with fail
    refine (wmHint_any _ _ _ (hr0.keep ((Below.refl _ _).alloc (Nat.le_refl _) _))).mono ?_
    rintro e w1 ⟨rfl, hb1⟩
    go_wp2
    go_ret2
    exact ⟨by simp [hg], ((Below.refl _ _).alloc (Nat.le_refl _) _).trans (hb1.mono (by simp))⟩
  · obtain ⟨G, hG⟩ : ∃ G, str (hintText h) = G := ⟨_, rfl⟩
    rw [hG]
    have HG : Hid (str (hintText h) = G) := hG
    clear hG
    have hlen := (goodHint_len hg).2
    go_enter Try.func59, Try.ntmps59
    go_wp2_with fail
    refine (wmHint_any _ _ _ (hr0.keep ((Below.refl _ _).alloc (Nat.le_refl _) _))).mono ?_
    rintro e w1 ⟨rfl, hb1⟩
    have hb1' : Below (w.heap.size + 1) (w.alloc (.cells #[.slice ao h.length cap] 31)) w1 := by simpa using hb1
    clear hb1
    have hx1 : w1.cell? ⟨w.heap.size, 0, none⟩ = some (.slice ao h.length cap) := (hb1'.cell (by simp)).trans (by simp)
    go_wp2_with fail
    refine (oneByte_any _ _).mono ?_
    rintro e w2 ⟨rfl, hb2⟩
    have hz1 := hb1'.size
    have hb2' := hb1'.trans (hb2.mono (by simpa using hz1))
    clear hx1 hb1' hb2 hz1
    have h0 : (⟨#[84, 72]⟩ : ByteArray) ++ ⟨#[byt h.length]⟩ = hintTo h 0 := by
      show str [84, 72] ++ str [byt h.length] = _
      rw [str_append]; rfl
    go_wp2
    go_loopw [4, 5] (fun l i wr => ∃ (k : Nat), k ≤ h.length ∧ i = .int .i64 k ∧ l = .string (hintTo h k) ∧ Below (w.heap.size + 1) (w.alloc (.cells #[.slice ao h.length cap] 31)) wr)
      (fun _ i _ => h.length - (intOf i).toNat)
    case atStart => exact ⟨0, Nat.zero_le _, rfl, by rw [← h0], hb2'⟩
    case round =>
      obtain ⟨k, hk, rfl, rfl, hbel⟩ := hrel
      clear h0
      have hx1 : wr.cell? ⟨w.heap.size, 0, none⟩ = some (.slice ao h.length cap) := (hbel.cell (by simp)).trans (by simp)
      have hz := hbel.size
      by_cases hlt : k < h.length
      · obtain ⟨b, off, sv, rfl, hc1, hc2, hc3⟩ := hc k hlt
        have hd1 := cell_keep (Below.under hbel) hc1
        have hd2 := cell_keep (Below.under hbel) hc2
        have hd3 := hc3.keep (Below.under hbel)
        have hsz := hintTo_size hg k
        have hpl := goodHint_pairs hg hlt
        have hsz2 : (str (pingText ⟨hsrc h k, hpairs h k⟩)).size ≤ 100 := by simp [str, ByteArray.size, pingText_length]; omega
        have HS : Hid (hintTo h (k + 1) = hintTo h k ++ str (pingText ⟨hsrc h k, hpairs h k⟩)) := hintTo_step hlt
        go_wp2_with fail
        refine (pairingText_any _ _ _ _ hd3 hpl).mono ?_
        rintro e w3 ⟨rfl, hb3⟩
        have hb4 := hbel.trans (hb3.mono (by simpa using hz))
        go_wp2
        go_roundw
        case rel => exact ⟨k + 1, by omega, by go_num, by rw [HS.out], hb4⟩
        case measure => simp [intOf]; omega
      · have he : hintTo h k = G := (hintTo_end (by omega)).trans HG.out
        go_wp2
        go_ret2
        exact ⟨by simp [he], Below.under hbel⟩

end Go.Proofs.Ytdjdjkgoelbbdaa

/- Reading a hint in the codec. -/
set_option linter.unusedSimpArgs false
set_option linter.unusedVariables false
namespace Go.Proofs.Ytdjdjkgoelbbdaa
open Go.RowKit

theorem Try.infoPair : (Try.prog.info? 84).map (fun i => (i.zero, i.size, i.bytes)) = some (some (.agg #[.int .i64 0, .int .i64 0]), 2, 16) := by kernel_rfl
theorem Try.infoPing : (Try.prog.info? 82).map (fun i => (i.zero, i.size, i.bytes)) = some (some (.agg #[.int .i64 0, .slice none 0 0]), 2, 32) := by kernel_rfl

/-- The pairs that are read from a place on. -/
def pairsAt (d : Int) (s : ByteArray) (next : Int) : Nat → List PairD
  | 0 => []
  | k + 1 => pairsAt d s next k ++ [⟨byteOr d s (next + 2 * k), byteOr d s (next + 2 * k + 1)⟩]

def pairCells (ps : List PairD) : List Value := ps.flatMap fun p => [.int .i64 p.reg, .int .i64 p.place]

theorem pairCells_snoc (ps : List PairD) (a b : Int) : pairCells (ps ++ [⟨a, b⟩]) = pairCells ps ++ [.int .i64 a, .int .i64 b] := by
  simp [pairCells]

theorem pairsAt_length (d : Int) (s : ByteArray) (next : Int) (k : Nat) : (pairsAt d s next k).length = k := by
  induction k with
  | zero => rfl
  | succ k ih => simp [pairsAt, ih]

theorem two_new (w : World) (x y : Value) (t : TypeId) : ∀ j u, [x, y][j]? = some u → (w.alloc (.cells #[x, y] t)).cell? ((⟨w.heap.size, 0, none⟩ : Addr).add j) = some u := by
  intro j u hj
  match j, hj with
  | 0, hj => simp at hj; subst hj; simp [Addr.add]
  | 1, hj => simp at hj; subst hj; simp [Addr.add]

theorem byteOr_bd (d : Int) (s : ByteArray) (i : Int) (hd : -1 ≤ d ∧ d ≤ 255) : -1 ≤ byteOr d s i ∧ byteOr d s i ≤ 255 := by
  unfold byteOr
  split
  · have := (s[i.toNat]!).toNat_lt; omega
  · exact hd

set_option maxHeartbeats 1000000 in
set_option maxRecDepth 100000 in
theorem pairingAt_any (s : ByteArray) (at_ : Int) (w : World) (hs : s.size ≤ maxLen) (ha : 0 ≤ at_) (ha2 : at_ ≤ 1000000) :
    Calls Try.prog 86 #[.string s, .int .i64 at_] w fun e w' => ∃ sv, e = .returned (.agg #[.int .i64 (byteOr (-1) s at_), sv]) ∧
      w'.ownsRow w.heap.size 84 2 sv (byteOr (-1) s (at_ + 1)).toNat (pairCells (pairsAt (-1) s (at_ + 2) (byteOr (-1) s (at_ + 1)).toNat)) ∧ Below w.heap.size w w' := by
  obtain ⟨i0, hi, hz0, hz1, hz2⟩ := info_parts Try.infoPair
  have hcb := byteOr_bd (-1) s (at_ + 1) (by omega)
  generalize hcn : byteOr (-1) s (at_ + 1) = c at *
  generalize hsn : byteOr (-1) s at_ = src at *
  go_enter Try.func86, Try.ntmps86
  go_wp2_with (go_at_call 79; refine (byteAt_any _ _ _ hs).mono ?_; rintro e w' ⟨rfl, rfl⟩)
  clear hcn hsn
  go_loopw [7, 8] (fun nx i wr => ∃ (k : Nat) (sv : Value), k ≤ c.toNat ∧ i = .int .i64 k ∧ nx = .int .i64 (at_ + 2 + 2 * k) ∧ wr.cell? ⟨w.heap.size + 1, 0, none⟩ = some (.int .i64 src) ∧ wr.cell? ⟨w.heap.size + 1, 1, none⟩ = some sv ∧
      wr.frozen? ⟨w.heap.size + 1, 1, none⟩ = false ∧ wr.ownsRow (w.heap.size + 2) 84 2 sv k (pairCells (pairsAt (-1) s (at_ + 2) k)) ∧ Below (w.heap.size + 1) (w.alloc (.cells #[.int .i64 0, .slice none 0 0] 82)) wr ∧ w.heap.size + 2 ≤ wr.heap.size)
    (fun _ i _ => c.toNat - (intOf i).toNat)
  case atStart =>
    refine ⟨0, .slice none 0 0, Nat.zero_le _, rfl, by simp, by simp, by simp, by simp, World.ownsRow_nil _ _ _ _, ?_, by simp⟩
    exact (Below.refl _ _).alloc (by simp) _
  case round =>
    obtain ⟨k, sv, hk, rfl, rfl, hx0, hx1, hxf, hown, hbel, hz⟩ := hrel
    obtain ⟨ao, cp, rfl⟩ := owns_slice hown
    have hzl : w.heap.size + 1 < wr.heap.size := by omega
    have hzm : w.heap.size < wr.heap.size := by omega
    have r0 : wr.cell? ⟨w.heap.size, 0, none⟩ = some (.int .i64 0) := (hbel.cell (by simp)).trans (by simp)
    have r1 : wr.cell? ⟨w.heap.size, 1, none⟩ = some (.slice none 0 0) := (hbel.cell (by simp)).trans (by simp)
    have rf0 : wr.frozen? ⟨w.heap.size, 0, none⟩ = false := (hbel.frozen (by simp)).trans (by simp)
    have rf1 : wr.frozen? ⟨w.heap.size, 1, none⟩ = false := (hbel.frozen (by simp)).trans (by simp)
    by_cases hlt : (k : Int) < c
    · have HS : Hid (pairsAt (-1) s (at_ + 2) (k + 1) = pairsAt (-1) s (at_ + 2) k ++ [⟨byteOr (-1) s (at_ + 2 + 2 * k), byteOr (-1) s (at_ + 2 + 2 * k + 1)⟩]) := rfl
      go_wp2_with (first | (go_at_call 79; refine (byteAt_any _ _ _ hs).mono ?_; rintro e w' ⟨rfl, rfl⟩) | (at_builtin; refine wpList_append_own _ rfl _ _ 80 rfl (w.heap.size + 2) 84 i0 (.agg #[.int .i64 0, .int .i64 0]) 2 16 Try.underlying80 hi hz0 hz1 hz2 rfl (by decide) _ _ _ rfl ((hown.alloc _).alloc _) ⟨wr.heap.size + 1, 0, none⟩ 1 1 [.int .i64 (byteOr (-1) s (at_ + 2 + 2 * k)), .int .i64 (byteOr (-1) s (at_ + 2 + 2 * k + 1))] rfl rfl ?c1 ?c2 ?c3 ?c4 ?c5 ?_))
      case c1 => simpa using two_new (wr.alloc _) _ _ _
      case c2 => intro u hu; simp at hu; rcases hu with rfl | rfl <;> rfl
      case c3 => unfold maxLen; omega
      case c4 => omega
      case c5 => simp; omega
      intro v' w1 hown' hgrow _
      rw [← pairCells_snoc, ← HS.out] at hown'
      have hb2 := ((((Below.refl (w.heap.size + 2) wr).alloc hz _).alloc (by simp; omega) _).grown hgrow (by simp; omega) (fun g hg => (hown.lt g hg).1))
      have y0 := (hb2.cell (p := ⟨w.heap.size + 1, 0, none⟩) (by simp)).trans hx0
      have y1 := (hb2.cell (p := ⟨w.heap.size + 1, 1, none⟩) (by simp)).trans hx1
      have yf := (hb2.frozen (p := ⟨w.heap.size + 1, 1, none⟩) (by simp)).trans hxf
      have hz2 := hb2.size
      have hb3 := (hbel.trans (hb2.mono (by omega)))
      obtain ⟨ao', cp', rfl⟩ := owns_slice hown'
      clear hgrow hown hx0 hx1 hxf r0 r1 rf0 rf1 hb2 hbel
      go_wp2
      go_roundw
      case rel =>
        refine ⟨k + 1, _, by omega, by go_num, by go_num, ?_, ?_, ?_, ownsRow_setCell_below hown' (by simp) _, hb3.setCell (by simp) _, by simp; omega⟩
        · exact cell_unset (by simp) y0
        · exact cell_set y1
        · simp [yf]
      case measure => simp [intOf]; omega
    · obtain rfl : k = c.toNat := by omega
      go_wp2
      refine bodyPost_ret (v := .agg #[.int .i64 src, .slice ao c.toNat cp]) (by simp [results, Try.results86, go_sem, r0, r1]) rfl ⟨_, rfl, ?_, ?_⟩
      · exact owns_base (ownsRow_setCell_below (ownsRow_setCell_below hown (by simp) _) (by simp) _) (by omega)
      · exact ((Below.under hbel).setCell (by simp) _).setCell (by simp) _

end Go.Proofs.Ytdjdjkgoelbbdaa
