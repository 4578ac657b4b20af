/- The text of a hint, in the document's answer. -/
import Derived.Test.YtdjdjkgoelbbdaaRefH
import Derived.Deep.RegionHeld3
set_option linter.unusedSimpArgs false
set_option linter.unusedVariables false
namespace Go.Proofs.Ytdjdjkgoelbbdaa
open Go.RowKit

theorem Below.cell_some {w w' : World} (hb : Below w.heap.size w w') {a : Addr} {v : Value} (h : w.cell? a = some v) : w'.cell? a = some v := cell_keep hb h

theorem bytes1 (x : Int) (w : World) : Calls Try.prog 72 #[.slice (some ⟨w.heap.size, 0, none⟩) 1 1] (w.alloc (.cells #[.int .i64 x] 3)) fun e w' => e = .returned (.string ⟨#[byt x]⟩) ∧ Below w.heap.size w w' := by
  have h := bytes_any w.heap.size 0 1 [x] (w.alloc (.cells #[.int .i64 x] 3)) (by simp) (by simp) (by
    intro i hi
    obtain rfl : i = 0 := by simp at hi; omega
    simp [el])
  refine h.mono ?_
  rintro e w' ⟨rfl, hb⟩
  exact ⟨rfl, ((Below.refl _ _).alloc (Nat.le_refl _) _).trans (hb.mono (by simp))⟩

theorem bytes2 (x y : Int) (w : World) : Calls Try.prog 72 #[.slice (some ⟨w.heap.size, 0, none⟩) 2 2] (w.alloc (.cells #[.int .i64 x, .int .i64 y] 3)) fun e w' => e = .returned (.string ⟨#[byt x, byt y]⟩) ∧ Below w.heap.size w w' := by
  have h := bytes_any w.heap.size 0 2 [x, y] (w.alloc (.cells #[.int .i64 x, .int .i64 y] 3)) (by simp) (by simp) (by
    intro i hi
    obtain rfl | rfl : i = 0 ∨ i = 1 := by simp at hi; omega
    all_goals simp [el])
  refine h.mono ?_
  rintro e w' ⟨rfl, hb⟩
  exact ⟨rfl, ((Below.refl _ _).alloc (Nat.le_refl _) _).trans (hb.mono (by simp))⟩

/-- The text of a hint as far as its first k blocks, the k-th begun, and j of its pairs. -/
def hintAt (h : List PingD) (k j : Nat) : ByteArray := hintTo h k ++ pingTo (hsrc h k) (hpairs h k) j

theorem hintAt_start (h : List PingD) (k : Nat) : hintAt h k 0 = hintTo h k ++ ⟨#[byt (hsrc h k), byt (hpairs h k).length]⟩ := rfl

theorem bappend_assoc (a b c : ByteArray) : a ++ b ++ c = a ++ (b ++ c) := by
  apply ByteArray.ext; simp [Array.append_assoc]

theorem hintAt_step {h : List PingD} {k j : Nat} (hj : j < (hpairs h k).length) : hintAt h k (j + 1) = hintAt h k j ++ ⟨#[byt (preg (hpairs h k) j), byt (pplace (hpairs h k) j)]⟩ := by
  unfold hintAt; rw [pingTo_step hj, bappend_assoc]

theorem hintAt_end {h : List PingD} {k j : Nat} (hk : k < h.length) (hj : (hpairs h k).length ≤ j) : hintAt h k j = hintTo h (k + 1) := by
  unfold hintAt; rw [pingTo_end hj, hintTo_step hk]

theorem hintAt_size {h : List PingD} (hg : goodHint h = true) {k j : Nat} (hk : k < h.length) (hj : j ≤ (hpairs h k).length) : (hintAt h k j).size ≤ 310 := by
  have h1 := hintTo_size hg k
  have h2 := goodHint_pairs hg hk
  have h3 := pingTo_size (hsrc h k) (hpairs h k) j hj
  unfold hintAt
  rw [ByteArray.size_append]
  omega

set_option maxRecDepth 100000 in
set_option maxHeartbeats 2000000 in
theorem rHintText_any (v : Value) (h : List PingD) (w : World) (hr : RdHint w v h) (hg : goodHint h = true) :
    Calls Try.prog 47 #[.agg #[v]] w fun e w' => e = .returned (.string (str (hintText h))) ∧ Below w.heap.size w w' := by
  have hr0 := hr
  obtain ⟨ao, cap, rfl, hl, hc⟩ := hr
  obtain ⟨G, hG⟩ : ∃ G, str (hintText h) = G := ⟨_, rfl⟩
  rw [hG]
  have HG : Hid (str (hintText h) = G) := hG
  clear hG
  have hlen := (goodHint_len hg).2
  go_enter Try.func47, Try.ntmps47
  go_wp2_with fail
  have hb := bytes1 (h.length) (w.alloc (.cells #[.slice ao h.length cap] 31))
  simp only [World.size_alloc] at hb
  refine hb.mono ?_
  rintro e w1 ⟨rfl, hb1⟩
  have h0 : (⟨#[84, 72]⟩ : ByteArray) ++ ⟨#[byt h.length]⟩ = hintTo h 0 := by
    show str [84, 72] ++ str [byt h.length] = _
    rw [str_append]; rfl
  go_wp2
  clear h0 hb
  go_loopw [3, 4] (fun l i wr => ∃ (k : Nat), k ≤ h.length ∧ i = .int .i64 k ∧ l = .string (hintTo h k) ∧ Below (w.heap.size + 1) (w.alloc (.cells #[.slice ao h.length cap] 31)) wr)
      (fun _ i _ => h.length - (intOf i).toNat)
  case atStart => exact ⟨0, Nat.zero_le _, rfl, rfl, by simpa using hb1⟩
  case round =>
    obtain ⟨k, hk, rfl, rfl, hbel⟩ := hrel
    clear hb1 w1
    have hx0 : wr.cell? ⟨w.heap.size, 0, none⟩ = some (.slice ao h.length cap) := (hbel.cell (by simp)).trans (by simp)
    have hz := hbel.size
    simp at hz
    by_cases hlt : k < h.length
    case neg =>
      have he : hintTo h k = G := (hintTo_end (by omega)).trans HG.out
      go_wp2
      go_ret
      exact ⟨by simp [he], Below.under hbel⟩
    obtain ⟨b, off, sv, rfl, hc1, hc2, hc3⟩ := hc k hlt
    have hd1 := cell_keep (Below.under hbel) hc1
    have hd2 := cell_keep (Below.under hbel) hc2
    have hd3 := hc3.keep (Below.under hbel)
    obtain ⟨so, sc, rfl, hsl, hsc⟩ := hd3
    have hsz := hintTo_size hg k
    have hpl := goodHint_pairs hg hlt
    have hb2 := bytes2 (hsrc h k) (hpairs h k).length (wr.alloc (.cells #[.int .i64 (hsrc h k), .slice so (hpairs h k).length sc] 82))
    simp only [World.size_alloc] at hb2
    go_wp2_with fail
    refine hb2.mono ?_
    rintro e w1 ⟨rfl, hb3⟩
    clear hb2
    have HA : Hid (hintAt h k 0 = hintTo h k ++ ⟨#[byt (hsrc h k), byt (hpairs h k).length]⟩) := hintAt_start h k
    have hbo := (Below.under hbel)
    obtain ⟨wo, hwo⟩ : ∃ wo, wo = wr := ⟨_, rfl⟩
    subst hwo
    clear hc1 hc2 hc3 hd1 hd2 hx0
    go_wp2
    go_loopw [3, 6] (fun l i w2 => ∃ (j : Nat), j ≤ (hpairs h k).length ∧ i = .int .i64 j ∧ l = .string (hintAt h k j) ∧ Below (wo.heap.size + 1) (wo.alloc (.cells #[.int .i64 (hsrc h k), .slice so (hpairs h k).length sc] 82)) w2)
      (fun _ i _ => (hpairs h k).length - (intOf i).toNat)
    case atStart => exact ⟨0, Nat.zero_le _, rfl, by rw [HA.out], by simpa using hb3⟩
    case round =>
      obtain ⟨j, hj, rfl, rfl, hbin⟩ := hrel
      clear hb3 w1
      have hy1 : wr.cell? ⟨wo.heap.size, 1, none⟩ = some (.slice so (hpairs h k).length sc) := (hbin.cell (by simp)).trans (by simp)
      have hzi := hbin.size
      simp at hzi
      by_cases hjl : j < (hpairs h k).length
      case neg =>
        have he : hintAt h k j = hintTo h (k + 1) := hintAt_end hlt (by omega)
        have hb' := hbel.trans ((Below.under hbin).mono (by omega))
        go_wp2
        go_roundw
        case rel => exact ⟨k + 1, by omega, by go_num, by rw [he], hb'⟩
        case measure => simp [intOf]; omega
      obtain ⟨b2, off2, rfl, e1, e2⟩ := hsc j hjl
      have hd1 := cell_keep (Below.under hbin) e1
      have hd2 := cell_keep (Below.under hbin) e2
      have q0 := fun (w' : World) (hb : Below wr.heap.size wr w') => cell_keep hb hy1
      have q1 := fun (w' : World) (hb : Below wr.heap.size wr w') => cell_keep hb hd1
      have q2 := fun (w' : World) (hb : Below wr.heap.size wr w') => cell_keep hb hd2
      have hsz2 := hintAt_size hg hlt hj
      go_wp2
      have hbt : Calls Try.prog 72 #[.slice (some ⟨wr.heap.size, 0, none⟩) 2 2] (wr.alloc (.cells #[.int .i64 (preg (hpairs h k) j), .int .i64 (pplace (hpairs h k) j)] 3)).drew fun e w' => e = .returned (.string ⟨#[byt (preg (hpairs h k) j), byt (pplace (hpairs h k) j)]⟩) ∧ Below wr.heap.size wr w' :=
        (bytes2 _ _ wr.drew).mono fun e w' h => ⟨h.1, (Below.refl wr.heap.size wr).drew.trans h.2⟩
      have f1 : (9223372036854775807 < (hintAt h k j).size + 2) = False := by simp only [eq_iff_iff, iff_false]; omega
      have f2 : (9223372036854775805 < (hintAt h k j).size) = False := by simp only [eq_iff_iff, iff_false]; omega
      go_region_held3 (fun w' => Below wr.heap.size wr w') (first | exact (Below.refl _ _).drew | exact ((Below.refl _ _).alloc (Nat.le_refl _) _).drew | assumption) (first | (go_at_call 72; refine hbt.mono ?_; rintro e w' ⟨rfl, hb9⟩))
      have HS : Hid (hintAt h k (j + 1) = hintAt h k j ++ ⟨#[byt (preg (hpairs h k) j), byt (pplace (hpairs h k) j)]⟩) := hintAt_step hjl
      clear q0 q1 q2 hd1 hd2 hy1
      go_wp2
      go_roundw
      case rel => exact ⟨j + 1, by omega, by go_num, by rw [HS.out], hbin.trans (Below.mono (by assumption) (by omega))⟩
      case measure => simp [intOf]; omega

end Go.Proofs.Ytdjdjkgoelbbdaa
