/- Lists of words that are read. -/
import Derived.Test.YtdjdjkgoelbbdaaDat
set_option linter.unusedSimpArgs false
set_option linter.unusedVariables false
namespace Go.Proofs.Ytdjdjkgoelbbdaa
open Go.RowKit

/-- A list of words that is read. -/
def RdWords (w : World) (v : Value) (l : List Int) : Prop :=
  ∃ ao cap, v = .slice ao l.length cap ∧ l.length ≤ 9223372036854775807 ∧ ∀ i, i < l.length → ∃ b off, ao = some ⟨b, off, none⟩ ∧ w.cell? ⟨b, off + i, none⟩ = some (.int .i64 (l.getD i 0))

theorem RdWords.keep {w w' : World} {v : Value} {l : List Int} (h : RdWords w v l) (hb : Below w.heap.size w w') : RdWords w' v l := by
  obtain ⟨ao, cap, rfl, hl, hc⟩ := h
  exact ⟨ao, cap, rfl, hl, fun i hi => let ⟨b, off, e, h1⟩ := hc i hi; ⟨b, off, e, cell_keep hb h1⟩⟩

theorem rdWords_nil (w : World) : RdWords w (.slice none 0 0) [] := ⟨none, 0, rfl, by simp, fun i hi => by simp at hi⟩

end Go.Proofs.Ytdjdjkgoelbbdaa
