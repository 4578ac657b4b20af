/- Writing behind the end of a hint's lists. -/
import Derived.Test.YtdjdjkgoelbbdaaSto
set_option linter.unusedSimpArgs false
set_option linter.unusedVariables false
namespace Go.Proofs.Ytdjdjkgoelbbdaa
open Go.RowKit

set_option maxRecDepth 100000 in
set_option maxHeartbeats 2000000 in
theorem behindHint_any (v : Value) (hv : List (PingD × Value)) (w : World) (base : Nat) (hown : OwnHint w base v hv) (hbs : base ≤ w.heap.size) (hl : hv.length ≤ 1000) (hl2 : ∀ x ∈ hv, x.1.pairs.length ≤ 1000)
    (S : Nat → Prop) (hSv : ∀ g, v.ownBlock = some g → S g) (hSx : ∀ x ∈ hv, ∀ g, x.2.ownBlock = some g → S g) :
    Calls Try.prog 50 #[.agg #[v]] w fun e w' => e = .returned (.tuple #[]) ∧ OwnHint w' base v hv ∧ Keep S w w' := by
  obtain ⟨i0, ii, iz0, iz1, iz2⟩ := info_parts Try.infoPing
  obtain ⟨j0, ji, jz0, jz1, jz2⟩ := info_parts Try.infoPair
  obtain ⟨ao, cap, rfl⟩ := owns_slice hown.row
  have hrd := hown.rd
  go_enter Try.func50, Try.ntmps50
  go_wp2
  go_loopw [2] (fun i wr => ∃ (k : Nat), k ≤ hv.length ∧ i = .int .i64 k ∧ OwnHint wr base (.slice ao hv.length cap) hv ∧ wr.cell? ⟨w.heap.size, 0, none⟩ = some (.slice ao hv.length cap) ∧ Keep S w wr ∧ w.heap.size + 1 ≤ wr.heap.size)
    (fun i _ => hv.length - (intOf i).toNat)
  case atStart => exact ⟨0, Nat.zero_le _, rfl, hown.alloc _, by simp, (Keep.refl _ _).alloc _, by simp⟩
  case round =>
    obtain ⟨k, hk, rfl, ho, hx0, hbel, hz⟩ := hrel
    by_cases hlt : k < hv.length
    case neg =>
      obtain ⟨wo, hwo⟩ : ∃ wo, wo = wr := ⟨_, rfl⟩
      subst hwo
      go_wp2
      go_loopw [5, 6] (fun l i w2 => ∃ (j : Nat), j ≤ 9 ∧ i = .int .i64 j ∧ OwnHint w2 base (.slice ao hv.length cap) hv ∧ w2.ownsRow base 82 2 l (hv.length + j) (pingCells hv ++ pad [.int .i64 0, .slice none 0 0] j) ∧ Hid (∀ g, l.ownBlock = some g → S g ∨ w.heap.size ≤ g) ∧ Keep S w w2 ∧ w.heap.size + 1 ≤ w2.heap.size)
        (fun _ i _ => 9 - (intOf i).toNat)
      case atStart => exact ⟨0, Nat.zero_le _, rfl, ho, by simpa [pad] using ho.row, fun g hg => .inl (hSv g hg), hbel, hz⟩
      case round =>
        obtain ⟨j, hj, rfl, ho2, hrow, hlb, hbin, hz2⟩ := hrel
        obtain ⟨lo, lc, rfl⟩ := owns_slice hrow
        by_cases hjl : j < 9
        · have HP : Hid (pad [.int .i64 0, .slice none 0 0] (j + 1) = pad [.int .i64 0, .slice none 0 0] j ++ [.int .i64 0, .slice none 0 0]) := rfl
          go_wp2_with (at_builtin; refine wpList_append_stay _ rfl _ _ 29 rfl base 82 i0 (.agg #[.int .i64 0, .slice none 0 0]) 2 32 Try.underlying29 ii iz0 iz1 iz2 rfl (by decide) _ _ _ rfl (hrow.alloc _) ⟨wr.heap.size, 0, none⟩ 1 1 [.int .i64 0, .slice none 0 0] rfl rfl (two_new wr _ _ _) ?d2 ?d3 ?d4 ?d5 (by decide) ?_)
          case d2 => first | exact ⟨rfl, rfl⟩ | (intro u hu; simp at hu; rcases hu with rfl | rfl <;> rfl)
          case d3 => unfold maxLen; omega
          case d4 => omega
          case d5 => first | omega | (simp; omega)
          intro v' w2 hrow' hgrow hstay hfr
          try rw [List.append_assoc] at hrow'
          rw [← HP.out] at hrow'
          have ho3 := (ho2.alloc _).appOut (hrow.alloc _) (fun g _ _ => ⟨_, rfl⟩) hgrow hstay
          have hb3 := (hbin.alloc _).grown hgrow hlb.out
          have hlb' : Hid (∀ g, v'.ownBlock = some g → S g ∨ w.heap.size ≤ g) := fun g hg => by
            rcases hfr g hg with e | e
            · exact hlb.out g e
            · exact .inr (by omega)
          have hz3 := hgrow.size
          simp at hz3
          obtain ⟨lo', lc', rfl⟩ := owns_slice hrow'
          clear hgrow hstay hfr hrow ho2 hbin
          go_wp2
          go_roundw
          case rel => exact ⟨j + 1, by omega, by go_num, ho3, hrow', hlb', hb3, by omega⟩
          case measure => simp [intOf]; omega
        · go_wp2
          go_end0
          exact ⟨rfl, ho2, hbin⟩
    obtain ⟨wo, hwo⟩ : ∃ wo, wo = wr := ⟨_, rfl⟩
    subst hwo
    obtain ⟨b, rfl, hbb, c1, c2, cf⟩ := ownHint_at ho hlt
    have hsl := hl2 _ (List.getElem_mem hlt)
    have hrow0 := ho.each _ (List.getElem_mem hlt)
    have hpre0 := PreP.start ho hlt
    have hne0 : Hid (∀ g, hv[k].2.ownBlock = some g → S g ∧ g < w.heap.size ∨ w.heap.size + 1 ≤ g) := fun g hg => .inl ⟨hSx _ (List.getElem_mem hlt) g hg, ((hown.each _ (List.getElem_mem hlt)).lt g hg).2⟩
    generalize hv[k].1.pairs = ps at *
    generalize hv[k].2 = sv at *
    go_wp2
    go_loopw [3, 4] (fun l i w2 => ∃ (j : Nat), j ≤ 9 ∧ i = .int .i64 j ∧ OwnHint w2 base (.slice (some ⟨b, 0, none⟩) hv.length cap) hv ∧ w2.ownsRow base 84 2 l (ps.length + j) (pairCells ps ++ pad [.int .i64 77, .int .i64 0] j) ∧ PreP hv l (pairCells ps ++ pad [.int .i64 77, .int .i64 0] j) ∧
        Hid (∀ g, l.ownBlock = some g → S g ∧ g < w.heap.size ∨ w.heap.size + 1 ≤ g) ∧ w2.cell? ⟨w.heap.size, 0, none⟩ = some (.slice (some ⟨b, 0, none⟩) hv.length cap) ∧ Keep S w w2 ∧ w.heap.size + 1 ≤ w2.heap.size)
      (fun _ i _ => 9 - (intOf i).toNat)
    case atStart => exact ⟨0, Nat.zero_le _, rfl, ho, by simpa [pad] using hrow0, by simpa [pad] using hpre0, hne0, hx0, hbel, hz⟩
    case round =>
      obtain ⟨j, hj, rfl, ho2, hrow, hpre, hne, hy0, hbin, hz2⟩ := hrel
      obtain ⟨lo, lc, rfl⟩ := owns_slice hrow
      by_cases hjl : j < 9
      · have HP : Hid (pad [.int .i64 77, .int .i64 0] (j + 1) = pad [.int .i64 77, .int .i64 0] j ++ [.int .i64 77, .int .i64 0]) := rfl
        go_wp2_with (at_builtin; refine wpList_append_stay _ rfl _ _ 80 rfl base 84 j0 (.agg #[.int .i64 0, .int .i64 0]) 2 16 Try.underlying80 ji jz0 jz1 jz2 rfl (by decide) _ _ _ rfl (hrow.alloc _) ⟨wr.heap.size, 0, none⟩ 1 1 [.int .i64 77, .int .i64 0] rfl rfl (two_new wr _ _ _) ?e2 ?e3 ?e4 ?e5 (by decide) ?_)
        case e2 => first | exact ⟨rfl, rfl⟩ | (intro u hu; simp at hu; rcases hu with rfl | rfl <;> rfl)
        case e3 => unfold maxLen; omega
        case e4 => omega
        case e5 => first | omega | (simp; omega)
        intro v' w2 hrow' hgrow hstay hfr
        have hpre' := PreP.step (news := [.int .i64 77, .int .i64 0]) ho2 hpre (fun g hg => by rcases hfr g hg with e | e; exact .inl e; exact .inr (by omega))
        try rw [List.append_assoc] at hrow'
        rw [← HP.out] at hrow'
        rw [List.append_assoc, ← HP.out] at hpre'
        have ho3 := (ho2.alloc _).app (hrow.alloc _) hpre hgrow hstay
        have hb3 := (hbin.alloc _).grown hgrow (fun g hg => by
          rcases hne.out g hg with e | e
          · exact .inl e.1
          · exact .inr (by omega))
        have hy3 : w2.cell? ⟨w.heap.size, 0, none⟩ = some (.slice (some ⟨b, 0, none⟩) hv.length cap) := hgrow.cell (by rw [World.cell?_alloc_lt _ _ _ (by show w.heap.size < _; omega)]; exact hy0) (fun e => by rcases hne.out _ e.symm with e1 | e1; exact absurd e1.2 (Nat.lt_irrefl _); exact absurd e1 (by simp))
        have hne' : Hid (∀ g, v'.ownBlock = some g → S g ∧ g < w.heap.size ∨ w.heap.size + 1 ≤ g) := fun g hg => by
          rcases hfr g hg with e | e
          · exact hne.out g e
          · exact .inr (by omega)
        have hz3 := hgrow.size
        simp at hz3
        obtain ⟨lo', lc', rfl⟩ := owns_slice hrow'
        clear hgrow hstay hfr hrow ho2 hbin hpre hy0 hne
        go_wp2
        go_roundw
        case rel => exact ⟨j + 1, by omega, by go_num, ho3, hrow', hpre', hne', hy3, hb3, by omega⟩
        case measure => simp [intOf]; omega
      · go_wp2
        go_roundw
        case rel => exact ⟨k + 1, by omega, by go_num, ho2, hy0, hbin, hz2⟩
        case measure => simp [intOf]; omega

end Go.Proofs.Ytdjdjkgoelbbdaa
