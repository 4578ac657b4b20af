/- The text of a hint in the codec. -/
import Derived.Test.YtdjdjkgoelbbdaaCodH
set_option linter.unusedSimpArgs false
set_option linter.unusedVariables false
namespace Go.Proofs.Ytdjdjkgoelbbdaa
open Go.RowKit

set_option maxHeartbeats 1000000 in
theorem pairingText_any (src : Int) (sv : Value) (ps : List PairD) (w : World) (hr : RdPairs w sv ps) (hn : ps.length ≤ 16) :
    Calls Try.prog 89 #[.agg #[.int .i64 src, sv]] w fun e w' => e = .returned (.string (str (pingText ⟨src, ps⟩))) ∧ Below w.heap.size w w' := by
  obtain ⟨ao, cap, rfl, hl, hc⟩ := hr
  obtain ⟨G, hG⟩ : ∃ G, str (pingText ⟨src, ps⟩) = G := ⟨_, rfl⟩
  rw [hG]
  have HG : Hid (str (pingText ⟨src, ps⟩) = G) := hG
  clear hG
  go_enter Try.func89, Try.ntmps89
  go_wp2_with fail
  refine (twoBytes_any _ _ _).mono ?_
  rintro e w1 ⟨rfl, hb1⟩
  have h0 : (⟨#[byt src, byt ps.length]⟩ : ByteArray) = pingTo src ps 0 := rfl
  rw [h0]
  have hb1' : Below (w.heap.size + 1) (w.alloc (.cells #[.int .i64 src, .slice ao ps.length cap] 82)) w1 := by simpa using hb1
  clear hb1 h0
  go_wp2
  go_loopw [3, 4] (fun l i wr => ∃ (k : Nat), k ≤ ps.length ∧ i = .int .i64 k ∧ l = .string (pingTo src ps k) ∧ Below (w.heap.size + 1) (w.alloc (.cells #[.int .i64 src, .slice ao ps.length cap] 82)) wr)
    (fun _ i _ => ps.length - (intOf i).toNat)
  case atStart => exact ⟨0, Nat.zero_le _, rfl, rfl, hb1'⟩
  case round =>
    obtain ⟨k, hk, rfl, rfl, hbel⟩ := hrel
    have hx1 : wr.cell? ⟨w.heap.size, 1, none⟩ = some (.slice ao ps.length cap) := (hbel.cell (by simp)).trans (by simp)
    have hz := hbel.size
    by_cases hlt : k < ps.length
    · obtain ⟨b, off, rfl, hc1, hc2⟩ := hc k hlt
      have hd1 := cell_keep (Below.under hbel) hc1
      have hd2 := cell_keep (Below.under hbel) hc2
      have q0 := fun x : Past wr.heap.size wr => x.cell hx1
      have q1 := fun x : Past wr.heap.size wr => x.cell hd1
      have q2 := fun x : Past wr.heap.size wr => x.cell hd2
      have hsz : (pingTo src ps k).size ≤ 100 := by rw [pingTo_size _ _ _ hk]; omega
      have np := Past.any wr.heap.size wr
      go_wp2
      refine wp_region_past wr.heap.size (by kernel_rfl) (by kernel_rfl) ?_
      repeat (go_big_quiet_step (exact Calls.past_of (Nat.le_refl _) (twoBytes_any _ _ _)))
      refine wpQuiet_nil ?_
      rintro _ ⟨x, rfl⟩
      have hb2 := hbel.trans (x.ok.mono (by simp at hz; omega))
      clear q0 q1 q2 np hd1 hd2 hx1
      have HS : Hid (pingTo src ps (k + 1) = pingTo src ps k ++ ⟨#[byt (preg ps k), byt (pplace ps k)]⟩) := pingTo_step hlt
      go_wp2
      go_roundw
      case rel => exact ⟨k + 1, by omega, by go_num, by rw [HS.out], hb2⟩
      case measure => simp [intOf]; omega
    · have he : pingTo src ps k = G := (pingTo_end (by omega)).trans HG.out
      go_wp2
      go_ret
      exact ⟨by simp [he], Below.under hbel⟩

set_option maxHeartbeats 1000000 in
theorem cEncodeHint_any (v : Value) (h : List PingD) (w : World) (hr : RdHint w v h) :
    Calls Try.prog 59 #[.agg #[v]] w fun e w' => e = .returned (.tuple (if goodHint h then #[.string (str (hintText h)), .int .i64 0] else #[.string ⟨#[]⟩, .int .i64 2])) ∧ Below w.heap.size w w' := by
  have hr0 := hr
  obtain ⟨ao, cap, rfl, hl, hc⟩ := hr
  cases hg : goodHint h
  · go_enter Try.func59, Try.ntmps59
    go_wp2_with fail
    refine (wmHint_any _ _ _ (hr0.keep ((Below.refl _ _).alloc (Nat.le_refl _) _))).mono ?_
    rintro e w1 ⟨rfl, hb1⟩
    go_wp2
    go_ret2
    exact ⟨by simp [hg], ((Below.refl _ _).alloc (Nat.le_refl _) _).trans (hb1.mono (by simp))⟩
  · obtain ⟨G, hG⟩ : ∃ G, str (hintText h) = G := ⟨_, rfl⟩
    rw [hG]
    have HG : Hid (str (hintText h) = G) := hG
    clear hG
    have hlen := (goodHint_len hg).2
    go_enter Try.func59, Try.ntmps59
    go_wp2_with fail
    refine (wmHint_any _ _ _ (hr0.keep ((Below.refl _ _).alloc (Nat.le_refl _) _))).mono ?_
    rintro e w1 ⟨rfl, hb1⟩
    have hb1' : Below (w.heap.size + 1) (w.alloc (.cells #[.slice ao h.length cap] 31)) w1 := by simpa using hb1
    clear hb1
    have hx1 : w1.cell? ⟨w.heap.size, 0, none⟩ = some (.slice ao h.length cap) := (hb1'.cell (by simp)).trans (by simp)
    go_wp2_with fail
    refine (oneByte_any _ _).mono ?_
    rintro e w2 ⟨rfl, hb2⟩
    have hz1 := hb1'.size
    have hb2' := hb1'.trans (hb2.mono (by simpa using hz1))
    clear hx1 hb1' hb2 hz1
    have h0 : (⟨#[84, 72]⟩ : ByteArray) ++ ⟨#[byt h.length]⟩ = hintTo h 0 := by
      show str [84, 72] ++ str [byt h.length] = _
      rw [str_append]; rfl
    go_wp2
    go_loopw [4, 5] (fun l i wr => ∃ (k : Nat), k ≤ h.length ∧ i = .int .i64 k ∧ l = .string (hintTo h k) ∧ Below (w.heap.size + 1) (w.alloc (.cells #[.slice ao h.length cap] 31)) wr)
      (fun _ i _ => h.length - (intOf i).toNat)
    case atStart => exact ⟨0, Nat.zero_le _, rfl, by rw [← h0], hb2'⟩
    case round =>
      obtain ⟨k, hk, rfl, rfl, hbel⟩ := hrel
      clear h0
      have hx1 : wr.cell? ⟨w.heap.size, 0, none⟩ = some (.slice ao h.length cap) := (hbel.cell (by simp)).trans (by simp)
      have hz := hbel.size
      by_cases hlt : k < h.length
      · obtain ⟨b, off, sv, rfl, hc1, hc2, hc3⟩ := hc k hlt
        have hd1 := cell_keep (Below.under hbel) hc1
        have hd2 := cell_keep (Below.under hbel) hc2
        have hd3 := hc3.keep (Below.under hbel)
        have hsz := hintTo_size hg k
        have hpl := goodHint_pairs hg hlt
        have hsz2 : (str (pingText ⟨hsrc h k, hpairs h k⟩)).size ≤ 100 := by simp [str, ByteArray.size, pingText_length]; omega
        have HS : Hid (hintTo h (k + 1) = hintTo h k ++ str (pingText ⟨hsrc h k, hpairs h k⟩)) := hintTo_step hlt
        go_wp2_with fail
        refine (pairingText_any _ _ _ _ hd3 hpl).mono ?_
        rintro e w3 ⟨rfl, hb3⟩
        have hb4 := hbel.trans (hb3.mono (by simpa using hz))
        go_wp2
        go_roundw
        case rel => exact ⟨k + 1, by omega, by go_num, by rw [HS.out], hb4⟩
        case measure => simp [intOf]; omega
      · have he : hintTo h k = G := (hintTo_end (by omega)).trans HG.out
        go_wp2
        go_ret2
        exact ⟨by simp [he], Below.under hbel⟩

end Go.Proofs.Ytdjdjkgoelbbdaa
