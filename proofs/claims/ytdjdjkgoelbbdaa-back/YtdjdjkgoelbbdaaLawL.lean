/- Does a hint with spare room read as it did? -/
import Derived.Test.YtdjdjkgoelbbdaaLawK
set_option linter.unusedSimpArgs false
set_option linter.unusedVariables false
namespace Go.Proofs.Ytdjdjkgoelbbdaa
open Go.RowKit

theorem rows_rd {w : World} {hv : List (PingD × Value)} {L cap : Nat} {t : List Value} (hl : Lies w hv) (hL : Row w L 82 (pingCells hv ++ t)) (hn : hv.length ≤ 9223372036854775807) (hn2 : ∀ x ∈ hv, x.1.pairs.length ≤ 9223372036854775807) :
    RdHint w (.slice (some ⟨L, 0, none⟩) hv.length cap) (hdat hv) := by
  refine ⟨_, _, by rw [hdat_length], by rw [hdat_length]; exact hn, fun i hi => ?_⟩
  rw [hdat_length] at hi
  have hpl := pingCells_length hv
  obtain ⟨g1, g2⟩ := pingCells_get hv i hi
  obtain ⟨e1, e2⟩ := hdat_get hv hi
  obtain ⟨p, ep, hp⟩ := hl _ (List.getElem_mem hi)
  refine ⟨L, 0, hv[i].2, rfl, ?_, ?_, ?_⟩
  · rw [Nat.zero_add, e1]; exact hL.cell (by rw [List.getElem?_append_left (by omega)]; exact g1)
  · rw [Nat.zero_add]; exact hL.cell (by rw [List.getElem?_append_left (by omega)]; exact g2)
  · rw [e2, ep]
    refine ⟨_, _, rfl, hn2 _ (List.getElem_mem hi), fun j hj => ?_⟩
    have hql := pairCells_length hv[i].1.pairs
    obtain ⟨k1, k2⟩ := pairCells_get hv[i].1.pairs j hj
    refine ⟨p, 0, rfl, ?_, ?_⟩
    · rw [Nat.zero_add]; exact hp.cell (by rw [List.getElem?_append_left (by omega)]; exact k1)
    · rw [Nat.zero_add]; exact hp.cell (by rw [List.getElem?_append_left (by omega)]; exact k2)

theorem Lies.keep {w w' : World} {hv : List (PingD × Value)} (h : Lies w hv) (hb : Below w.heap.size w w') : Lies w' hv := lies_step h fun _ _ hp => hp.keep hb

set_option maxRecDepth 100000 in
set_option maxHeartbeats 2000000 in
theorem wholeHint_any (hv : List (PingD × Value)) (L D : Nat) (u : Value) (w : World) (hl : Lies w hv) (hL : Row w L 82 (pingCells hv ++ [.int .i64 77, .slice none 0 0])) (hD : Row w D 82 (pingCells hv)) (hu : RdHint w u (hdat hv))
    (hn : hv.length ≤ 4398046511104) (hn2 : ∀ x ∈ hv, x.1.pairs.length ≤ 8796093022208) :
    Calls Try.prog 45 #[.agg #[.slice (some ⟨L, 0, none⟩) hv.length (hv.length + 1)], .slice (some ⟨D, 0, none⟩) hv.length hv.length, .agg #[u]] w fun e w' => e = .returned (.bool true) ∧ Below w.heap.size w w' := by
  have n1 : hv.length ≤ 9223372036854775807 := by omega
  have n2 : ∀ x ∈ hv, x.1.pairs.length ≤ 9223372036854775807 := fun x hx => by have := hn2 x hx; omega
  have r1 := rows_rd (cap := hv.length + 1) hl hL n1 n2
  have r2 := rows_rd (t := []) (cap := hv.length) hl (by simpa using hD) n1 n2
  obtain ⟨uo, uc, ue, _, _⟩ := id hu
  subst ue
  rw [hdat_length] at hu ⊢
  have hnq := fun (w : World) => run_neq_slice_nil_any (P := Try.prog) w 80 84 none 0 0 0 0 Try.underlying80
  have HL := hL.lt
  have HD := hD.lt
  go_enter Try.func45, Try.ntmps45
  go_wp2_with fail
  refine (sameHint_any _ _ _ _ (r1.keep (((Below.refl _ _).alloc (Nat.le_refl _) _).alloc (by simp) _)) (hu.keep (((Below.refl _ _).alloc (Nat.le_refl _) _).alloc (by simp) _))).mono ?_
  rintro e w1 ⟨rfl, hb1⟩
  have hb1' : Below (w.heap.size + 2) ((w.alloc (.cells #[.slice (some ⟨L, 0, none⟩) hv.length (hv.length + 1)] 31)).alloc (.cells #[.slice uo hv.length uc] 31)) w1 := by simpa using hb1
  clear hb1
  have hb01 : Below w.heap.size w w1 := (((Below.refl w.heap.size w).alloc (Nat.le_refl _) _).alloc (by simp) _).trans (hb1'.mono (by omega))
  have x0 : w1.cell? ⟨w.heap.size, 0, none⟩ = some (.slice (some ⟨L, 0, none⟩) hv.length (hv.length + 1)) := (hb1'.cell (by simp)).trans (by simp)
  have x1 : w1.cell? ⟨w.heap.size + 1, 0, none⟩ = some (.slice uo hv.length uc) := (hb1'.cell (by simp)).trans (by simp)
  go_wp2_with fail
  refine (sameHint_any _ _ _ _ (r2.keep hb01) (hu.keep hb01)).mono ?_
  rintro e w2 ⟨rfl, hb2⟩
  have hz1 := hb1'.size
  simp at hz1
  have hb02 := hb01.trans (hb2.mono (by omega))
  have y0 := cell_keep hb2 x0
  have hL2 := hL.keep hb02
  have hD2 := hD.keep hb02
  have hl2 := hl.keep hb02
  have hpl := pingCells_length hv
  have l0 := hL2.cell (i := hv.length * 2) (u := .int .i64 77) (by rw [List.getElem?_append_right (by omega), hpl, Nat.sub_self]; rfl)
  have l1 := hL2.cell (i := hv.length * 2 + 1) (u := .slice none 0 0) (by rw [List.getElem?_append_right (by omega), hpl, Nat.add_sub_cancel_left]; rfl)
  clear x0 x1 r1 r2 hb1' hb01 hb2 hL hD hl
  go_wp2
  go_loop [11] (fun i => ∃ (k : Nat), k ≤ hv.length ∧ i = .int .i64 k) (fun i => hv.length - (intOf i).toNat)
  case atStart => exact ⟨0, Nat.zero_le _, rfl⟩
  case round =>
    obtain ⟨k, hk, rfl⟩ := hrel
    by_cases hlt : k < hv.length
    · obtain ⟨g1, g2⟩ := pingCells_get hv k hlt
      obtain ⟨p, ep, hp⟩ := hl2 _ (List.getElem_mem hlt)
      have hm := hn2 _ (List.getElem_mem hlt)
      have d2 := hD2.cell g2
      rw [ep] at d2
      have hql := pairCells_length hv[k].1.pairs
      have p0 := hp.cell (i := hv[k].1.pairs.length * 2) (u := .int .i64 77) (by rw [List.getElem?_append_right (by omega), hql, Nat.sub_self]; rfl)
      clear ep g1 g2 hql hp
      generalize hv[k].1.pairs.length = m at *
      go_wp2
      go_round
      case rel => exact ⟨k + 1, by omega, by go_num⟩
      case measure => simp [intOf]; omega
    · go_wp2
      go_ret
      exact ⟨rfl, hb02⟩

/-! ### The calls themselves -/

set_option maxRecDepth 100000 in
set_option maxHeartbeats 1000000 in
theorem tEncodeHint_any (v : Value) (h : List PingD) (w : World) (hr : RdHint w v h) :
    Calls Try.prog 21 #[.agg #[v]] w fun e w' => e = .returned (.tuple (if goodHint h then #[.string (str (hintText h)), .int .i64 0] else #[.string ⟨#[]⟩, .int .i64 2])) ∧ Below w.heap.size w w' := by
  obtain ⟨ao, cap, e0, _, _⟩ := id hr
  subst e0
  have hc := cEncodeHint_any _ h (w.alloc (.cells #[.slice ao h.length cap] 31)) (hr.keep ((Below.refl _ _).alloc (Nat.le_refl _) _))
  cases hg : goodHint h
  · simp only [hg] at hc
    go_enter Try.func21, Try.ntmps21
    go_wp2_with fail
    refine hc.mono ?_
    rintro e w1 ⟨rfl, hb1⟩
    clear hc
    go_wp2
    go_ret2
    exact ⟨by simp [hg], ((Below.refl _ _).alloc (Nat.le_refl _) _).trans (hb1.mono (by simp))⟩
  · simp only [hg] at hc
    go_enter Try.func21, Try.ntmps21
    go_wp2_with fail
    refine hc.mono ?_
    rintro e w1 ⟨rfl, hb1⟩
    clear hc
    go_wp2
    go_ret2
    exact ⟨by simp [hg], ((Below.refl _ _).alloc (Nat.le_refl _) _).trans (hb1.mono (by simp))⟩

set_option maxRecDepth 100000 in
set_option maxHeartbeats 1000000 in
theorem tDecodeHint_any (s : ByteArray) (w : World) (hs : s.size ≤ maxLen) :
    Calls Try.prog 20 #[.string s] w fun e w' => ((∃ v hv, e = .returned (.tuple #[.agg #[v], .int .i64 0]) ∧ OwnHint w' w.heap.size v hv ∧ goodHint (hdat hv) = true ∧ str (hintText (hdat hv)) = s) ∨
      ((∀ h, goodHint h = true → str (hintText h) ≠ s) ∧ e = .returned (.tuple #[.agg #[.slice none 0 0], .int .i64 2]))) ∧ Below w.heap.size w w' := by
  obtain ⟨Post, hPost⟩ : ∃ Post : Ending → World → Prop, Post = fun e w' => ((∃ v hv, e = .returned (.tuple #[.agg #[v], .int .i64 0]) ∧ OwnHint w' w.heap.size v hv ∧ goodHint (hdat hv) = true ∧ str (hintText (hdat hv)) = s) ∨
      ((∀ h, goodHint h = true → str (hintText h) ≠ s) ∧ e = .returned (.tuple #[.agg #[.slice none 0 0], .int .i64 2]))) ∧ Below w.heap.size w w' := ⟨_, rfl⟩
  rw [← hPost]
  have HP : Hid (Post = fun e w' => ((∃ v hv, e = .returned (.tuple #[.agg #[v], .int .i64 0]) ∧ OwnHint w' w.heap.size v hv ∧ goodHint (hdat hv) = true ∧ str (hintText (hdat hv)) = s) ∨
      ((∀ h, goodHint h = true → str (hintText h) ≠ s) ∧ e = .returned (.tuple #[.agg #[.slice none 0 0], .int .i64 2]))) ∧ Below w.heap.size w w') := hPost
  clear hPost
  have hc := cDecodeHint_any s (w.alloc (.cells #[.slice none 0 0] 31)) hs
  go_enter Try.func20, Try.ntmps20
  go_wp2_with fail
  refine hc.mono ?_
  clear hc
  rintro e w1 ⟨hor, hb1⟩
  have hz1 := hb1.size
  simp at hz1
  have x0 : w1.cell? ⟨w.heap.size, 0, none⟩ = some (.slice none 0 0) := (hb1.cell (by simp)).trans (by simp)
  have xf : w1.frozen? ⟨w.heap.size, 0, none⟩ = false := (hb1.frozen (by simp)).trans (by simp)
  have hb2 : Below w.heap.size w w1 := ((Below.refl _ _).alloc (Nat.le_refl _) _).trans (hb1.mono (by simp))
  rcases hor with ⟨v, hv, rfl, ho, hg, ht⟩ | ⟨hno, rfl⟩
  · obtain ⟨ao, cap, rfl⟩ := owns_slice ho.row
    have ho' : OwnHint w1 (w.heap.size + 1) (.slice ao hv.length cap) hv := by simpa using ho
    have hfin : Post (.returned (.tuple #[.agg #[.slice ao hv.length cap], .int .i64 0])) (w1.setCell ⟨w.heap.size, 0, none⟩ (.slice ao hv.length cap)) := by
      rw [HP.out]
      exact ⟨.inl ⟨_, hv, rfl, (ho'.set (by simp) _).base (by omega), hg, ht⟩, hb2.setCell (by simp) _⟩
    clear HP ho ho' hg ht
    go_wp2
    exact bodyPost_ret (v := .tuple #[.agg #[.slice ao hv.length cap], .int .i64 0]) (by simp [results, Try.results20, go_sem, x0]) rfl hfin
  · have hfin : Post (.returned (.tuple #[.agg #[.slice none 0 0], .int .i64 2])) (w1.setCell ⟨w.heap.size, 0, none⟩ (.slice none 0 0)) := by
      rw [HP.out]
      exact ⟨.inr ⟨hno, rfl⟩, hb2.setCell (by simp) _⟩
    clear HP hno
    go_wp2
    exact bodyPost_ret (v := .tuple #[.agg #[.slice none 0 0], .int .i64 2]) (by simp [results, Try.results20, go_sem, x0]) rfl hfin

end Go.Proofs.Ytdjdjkgoelbbdaa
