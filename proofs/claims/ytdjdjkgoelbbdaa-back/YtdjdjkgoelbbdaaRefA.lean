/- Leaf functions of the document's answer: what each call gives. -/
import Derived.Test.YtdjdjkgoelbbdaaCodA
set_option linter.unusedSimpArgs false
set_option linter.unusedVariables false
namespace Go.Proofs.Ytdjdjkgoelbbdaa
open Go.RowKit

theorem Try.infoU8 : (Try.prog.info? 5).map (fun i => (i.zero, i.size, i.bytes)) = some (some (.int .u8 0), 1, 1) := by kernel_rfl

set_option maxHeartbeats 400000 in
theorem at_any (s : ByteArray) (i : Int) (w : World) (hs : s.size ≤ maxLen) :
    Calls Try.prog 73 #[.string s, .int .i64 i] w fun e w' => e = .returned (.int .i64 (byteOr 0 s i)) ∧ w = w' := by
  unfold maxLen at hs
  by_cases h1 : 0 ≤ i
  · obtain ⟨n, rfl⟩ := Int.eq_ofNat_of_zero_le h1
    by_cases h2 : (n : Int) < s.size
    · go_enter Try.func73, Try.ntmps73
      go_wp2
      go_ret
      refine ⟨?_, rfl⟩
      simp [byteOr, h1, h2, getElem!_pos, show n < s.size by omega, wrap64_u8]
    · have hc : byteOr 0 s n = 0 := by simp only [byteOr, h2, and_false, if_false]
      go_enter Try.func73, Try.ntmps73
      go_wp2
      go_ret
      exact ⟨rfl, rfl⟩
  · have hc : byteOr 0 s i = 0 := by simp only [byteOr, h1, false_and, if_false]
    go_enter Try.func73, Try.ntmps73
    go_wp2
    go_ret
    exact ⟨rfl, rfl⟩

/-- The k-th number of a list (kept from the walk's own rules). -/
def el (xs : List Int) (k : Nat) : Int := xs.getD k 0
/-- The first k numbers as bytes in cells. -/
def rowB (xs : List Int) (k : Nat) : List Value := (xs.take k).map fun n => Value.int .u8 (n % 256)

theorem rowB_succ {xs : List Int} {k : Nat} (h : k < xs.length) : rowB xs (k + 1) = rowB xs k ++ [.int .u8 (el xs k % 256)] := by
  unfold rowB el
  rw [List.take_succ_eq_append_getElem h, List.map_append, show xs.getD k 0 = xs[k] from by simp [h]]
  rfl

theorem str_nb (xs : List Int) : strOfNums (xs.map (· % 256)) = ⟨(xs.map byt).toArray⟩ := by
  simp [strOfNums, byt, Function.comp_def]

theorem conv_own {w wr : World} {B : Nat} {v : Value} {xs : List Int} (h : wr.ownsRow B 5 1 v xs.length (rowB xs xs.length)) :
    (convert 138 9 v).run Try.prog wr = .ok (.string ⟨(xs.map byt).toArray⟩) wr := by
  rcases h.2 with ⟨rfl, h0⟩ | ⟨g, cap, cur, rfl, _, hg, _, _, hs, ht⟩
  · have : xs = [] := List.eq_nil_of_length_eq_zero h0
    subst this
    exact run_convert_bytes_nil _ 138 5 Try.underlying138 Try.underlying5 _ _ _ Try.underlying9
  · rw [← str_nb]
    refine run_convert_bytes_arg _ 138 5 Try.underlying138 Try.underlying5 _ 0 _ _ _ (by simp) ?_ _ Try.underlying9
    intro i hi
    have hc := h.cells (g := g) rfl i (.int .u8 ((xs.map (· % 256)).getD i 0)) (by simp [rowB, hi])
    rw [Addr.add_lit] at hc
    simpa using hc

set_option maxHeartbeats 800000 in
theorem bytes_any (b off cap : Nat) (xs : List Int) (w : World) (hb : b < w.heap.size) (hl : xs.length ≤ 1000)
    (hc : ∀ i, i < xs.length → w.cell? ⟨b, off + i, none⟩ = some (.int .i64 (el xs i))) :
    Calls Try.prog 72 #[.slice (some ⟨b, off, none⟩) xs.length cap] w fun e w' => e = .returned (.string ⟨(xs.map byt).toArray⟩) ∧ Below w.heap.size w w' := by
  obtain ⟨i0, hi, hz0, hz1, hz2⟩ := info_parts Try.infoU8
  obtain ⟨r, hr⟩ : ∃ r : ByteArray, r = ⟨(xs.map byt).toArray⟩ := ⟨_, rfl⟩
  rw [← hr]
  have HR : Hid (r = ⟨(xs.map byt).toArray⟩) := hr
  clear hr
  go_enter Try.func72, Try.ntmps72
  go_wp2
  go_loopw [3, 4] (fun v i wr => ∃ k : Nat, k ≤ xs.length ∧ i = .int .i64 k ∧ wr.ownsRow w.heap.size 5 1 v k (rowB xs k) ∧ Below w.heap.size w wr)
    (fun _ i _ => xs.length - (intOf i).toNat)
  case atStart => exact ⟨0, Nat.zero_le _, rfl, World.ownsRow_nil _ _ _ _, Below.refl _ _⟩
  case round =>
    obtain ⟨k, hk, rfl, hown, hbel⟩ := hrel
    by_cases hlt : k < xs.length
    · have hcx : wr.cell? ⟨b, off + k, none⟩ = some (.int .i64 (el xs k)) := (hbel.cell hb).trans (hc k hlt)
      have hz := hbel.size
      go_wp2_with (at_builtin; refine wpList_append_own _ rfl _ _ 138 rfl w.heap.size 5 i0 (.int .u8 0) 1 1 Try.underlying138 hi hz0 hz1 hz2 rfl (by decide) _ _ _ rfl (hown.alloc _) ⟨wr.heap.size, 0, none⟩ 1 1 [.int .u8 (el xs k % 256)] rfl rfl (cell_one_new _ _ _) ?c2 ?c3 ?c4 ?c5 ?_)
      case c2 => intro u hu; simp at hu; subst hu; rfl
      case c3 => unfold maxLen; omega
      case c4 => omega
      case c5 => simp; omega
      intro v' w1 hown' hgrow _
      rw [← rowB_succ hlt] at hown'
      have hb1 := (hbel.alloc hz (Obj.cells #[.int .u8 (el xs k % 256)] 5)).grown hgrow (by simp; omega) (fun g hg => (hown.lt g hg).1)
      clear hgrow hown hcx
      go_wp2
      go_roundw
      case rel => exact ⟨k + 1, by omega, by go_num, hown', hb1⟩
      case measure => simp [intOf]; omega
    · obtain rfl : k = xs.length := by omega
      have hcv := conv_own (w := w) hown
      rw [← HR.out] at hcv
      go_wp2
      go_ret
      exact ⟨rfl, hbel⟩

end Go.Proofs.Ytdjdjkgoelbbdaa
