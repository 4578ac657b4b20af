/- Does a hint with spare room read as it did? -/
import Derived.Test.YtdjdjkgoelbbdaaLawKJoined
import Derived.Test.YtdjdjkgoelbbdaaAppToSto
set_option linter.unusedSimpArgs false
set_option linter.unusedVariables false
namespace Go.Proofs.Ytdjdjkgoelbbdaa
open Go.RowKit

theorem rows_rd {w : World} {hv : List (PingD × Value)} {L cap : Nat} {t : List Value} (hl : Lies w hv) (hL : Row w L 82 (pingCells hv ++ t)) (hn : hv.length ≤ 9223372036854775807) (hn2 : ∀ x ∈ hv, x.1.pairs.length ≤ 9223372036854775807) :
    RdHint w (.slice (some ⟨L, 0, none⟩) hv.length cap) (hdat hv) := by
  refine ⟨_, _, by rw [hdat_length], by rw [hdat_length]; exact hn, fun i hi => ?_⟩
  rw [hdat_length] at hi
  have hpl := pingCells_length hv
  obtain ⟨g1, g2⟩ := pingCells_get hv i hi
  obtain ⟨e1, e2⟩ := hdat_get hv hi
  obtain ⟨p, ep, hp⟩ := hl _ (List.getElem_mem hi)
  refine ⟨L, 0, hv[i].2, rfl, ?_, ?_, ?_⟩
  · rw [Nat.zero_add, e1]; exact hL.cell (by rw [List.getElem?_append_left (by omega)]; exact g1)
  · rw [Nat.zero_add]; exact hL.cell (by rw [List.getElem?_append_left (by omega)]; exact g2)
  · rw [e2, ep]
    refine ⟨_, _, rfl, hn2 _ (List.getElem_mem hi), fun j hj => ?_⟩
    have hql := pairCells_length hv[i].1.pairs
    obtain ⟨k1, k2⟩ := pairCells_get hv[i].1.pairs j hj
    refine ⟨p, 0, rfl, ?_, ?_⟩
    · rw [Nat.zero_add]; exact hp.cell (by rw [List.getElem?_append_left (by omega)]; exact k1)
    · rw [Nat.zero_add]; exact hp.cell (by rw [List.getElem?_append_left (by omega)]; exact k2)

theorem Lies.keep {w w' : World} {hv : List (PingD × Value)} (h : Lies w hv) (hb : Below w.heap.size w w') : Lies w' hv := lies_step h fun _ _ hp => hp.keep hb

set_option maxRecDepth 100000 in
set_option maxHeartbeats 2000000 in
theorem wholeHint_any (hv : List (PingD × Value)) (L D : Nat) (u : Value) (w : World) (hl : Lies w hv) (hL : Row w L 82 (pingCells hv ++ [.int .i64 77, .slice none 0 0])) (hD : Row w D 82 (pingCells hv)) (hu : RdHint w u (hdat hv))
    (hn : hv.length ≤ 4398046511104) (hn2 : ∀ x ∈ hv, x.1.pairs.length ≤ 8796093022208) :
    Calls Try.prog 45 #[.agg #[.slice (some ⟨L, 0, none⟩) hv.length (hv.length + 1)], .slice (some ⟨D, 0, none⟩) hv.length hv.length, .agg #[u]] w fun e w' => e = .returned (.bool true) ∧ Below w.heap.size w w' := by
  have n1 : hv.length ≤ 9223372036854775807 := by omega
  have n2 : ∀ x ∈ hv, x.1.pairs.length ≤ 9223372036854775807 := fun x hx => by have := hn2 x hx; omega
  have r1 := rows_rd (cap := hv.length + 1) hl hL n1 n2
  have r2 := rows_rd (t := []) (cap := hv.length) hl (by simpa using hD) n1 n2
  obtain ⟨uo, uc, ue, _, _⟩ := id hu
  subst ue
  rw [hdat_length] at hu ⊢
  have hnq := fun (w : World) => run_neq_slice_nil_any (P := Try.prog) w 80 84 none 0 0 0 0 Try.underlying80
  have HL := hL.lt
  have HD := hD.lt
  go_enter Try.func45, Try.ntmps45
  go_wp2_with fail
  refine (sameHint_any _ _ _ _ (r1.keep (((Below.refl _ _).alloc (Nat.le_refl _) _).alloc (by simp) _)) (hu.keep (((Below.refl _ _).alloc (Nat.le_refl _) _).alloc (by simp) _))).mono ?_
  rintro e w1 ⟨rfl, hb1⟩
  have hb1' : Below (w.heap.size + 2) ((w.alloc (.cells #[.slice (some ⟨L, 0, none⟩) hv.length (hv.length + 1)] 31)).alloc (.cells #[.slice uo hv.length uc] 31)) w1 := by simpa using hb1
  clear hb1
  have hb01 : Below w.heap.size w w1 := (((Below.refl w.heap.size w).alloc (Nat.le_refl _) _).alloc (by simp) _).trans (hb1'.mono (by omega))
  have x0 : w1.cell? ⟨w.heap.size, 0, none⟩ = some (.slice (some ⟨L, 0, none⟩) hv.length (hv.length + 1)) := (hb1'.cell (by simp)).trans (by simp)
  have x1 : w1.cell? ⟨w.heap.size + 1, 0, none⟩ = some (.slice uo hv.length uc) := (hb1'.cell (by simp)).trans (by simp)
  go_wp2_with fail
  refine (sameHint_any _ _ _ _ (r2.keep hb01) (hu.keep hb01)).mono ?_
  rintro e w2 ⟨rfl, hb2⟩
  have hz1 := hb1'.size
  simp at hz1
  have hb02 := hb01.trans (hb2.mono (by omega))
  have y0 := cell_keep hb2 x0
  have hL2 := hL.keep hb02
  have hD2 := hD.keep hb02
  have hl2 := hl.keep hb02
  have hpl := pingCells_length hv
  have l0 := hL2.cell (i := hv.length * 2) (u := .int .i64 77) (by rw [List.getElem?_append_right (by omega), hpl, Nat.sub_self]; rfl)
  have l1 := hL2.cell (i := hv.length * 2 + 1) (u := .slice none 0 0) (by rw [List.getElem?_append_right (by omega), hpl, Nat.add_sub_cancel_left]; rfl)
  clear x0 x1 r1 r2 hb1' hb01 hb2 hL hD hl
  go_wp2
  go_loop [11] (fun i => ∃ (k : Nat), k ≤ hv.length ∧ i = .int .i64 k) (fun i => hv.length - (intOf i).toNat)
  case atStart => exact ⟨0, Nat.zero_le _, rfl⟩
  case round =>
    obtain ⟨k, hk, rfl⟩ := hrel
    by_cases hlt : k < hv.length
    · obtain ⟨g1, g2⟩ := pingCells_get hv k hlt
      obtain ⟨p, ep, hp⟩ := hl2 _ (List.getElem_mem hlt)
      have hm := hn2 _ (List.getElem_mem hlt)
      have d2 := hD2.cell g2
      rw [ep] at d2
      have hql := pairCells_length hv[k].1.pairs
      have p0 := hp.cell (i := hv[k].1.pairs.length * 2) (u := .int .i64 77) (by rw [List.getElem?_append_right (by omega), hql, Nat.sub_self]; rfl)
      clear ep g1 g2 hql hp
      generalize hv[k].1.pairs.length = m at *
      go_wp2
      go_round
      case rel => exact ⟨k + 1, by omega, by go_num⟩
      case measure => simp [intOf]; omega
    · go_wp2
      go_ret
      exact ⟨rfl, hb02⟩

/-! ### The calls themselves -/

set_option maxRecDepth 100000 in
set_option maxHeartbeats 1000000 in
theorem tEncodeHint_any (v : Value) (h : List PingD) (w : World) (hr : RdHint w v h) :
    Calls Try.prog 21 #[.agg #[v]] w fun e w' => e = .returned (.tuple (if goodHint h then #[.string (str (hintText h)), .int .i64 0] else #[.string ⟨#[]⟩, .int .i64 2])) ∧ Below w.heap.size w w' := by
  obtain ⟨ao, cap, e0, _, _⟩ := id hr
  subst e0
  have hc := cEncodeHint_any _ h (w.alloc (.cells #[.slice ao h.length cap] 31)) (hr.keep ((Below.refl _ _).alloc (Nat.le_refl _) _))
  cases hg : goodHint h
  · simp only [hg] at hc
    go_enter Try.func21, Try.ntmps21
    go_wp2_with fail
    refine hc.mono ?_
    rintro e w1 ⟨rfl, hb1⟩
    clear hc
    go_wp2
    go_ret2
    exact ⟨by simp [hg], ((Below.refl _ _).alloc (Nat.le_refl _) _).trans (hb1.mono (by simp))⟩
  · simp only [hg] at hc
    go_enter Try.func21, Try.ntmps21
    go_wp2_with fail
    refine hc.mono ?_
    rintro e w1 ⟨rfl, hb1⟩
    clear hc
    go_wp2
    go_ret2
    exact ⟨by simp [hg], ((Below.refl _ _).alloc (Nat.le_refl _) _).trans (hb1.mono (by simp))⟩

set_option maxRecDepth 100000 in
set_option maxHeartbeats 1000000 in
theorem tDecodeHint_any (s : ByteArray) (w : World) (hs : s.size ≤ maxLen) :
    Calls Try.prog 20 #[.string s] w fun e w' => ((∃ v hv, e = .returned (.tuple #[.agg #[v], .int .i64 0]) ∧ OwnHint w' w.heap.size v hv ∧ goodHint (hdat hv) = true ∧ str (hintText (hdat hv)) = s) ∨
      ((∀ h, goodHint h = true → str (hintText h) ≠ s) ∧ e = .returned (.tuple #[.agg #[.slice none 0 0], .int .i64 2]))) ∧ Below w.heap.size w w' := by
  obtain ⟨Post, hPost⟩ : ∃ Post : Ending → World → Prop, Post = fun e w' => ((∃ v hv, e = .returned (.tuple #[.agg #[v], .int .i64 0]) ∧ OwnHint w' w.heap.size v hv ∧ goodHint (hdat hv) = true ∧ str (hintText (hdat hv)) = s) ∨
      ((∀ h, goodHint h = true → str (hintText h) ≠ s) ∧ e = .returned (.tuple #[.agg #[.slice none 0 0], .int .i64 2]))) ∧ Below w.heap.size w w' := ⟨_, rfl⟩
  rw [← hPost]
  have HP : Hid (Post = fun e w' => ((∃ v hv, e = .returned (.tuple #[.agg #[v], .int .i64 0]) ∧ OwnHint w' w.heap.size v hv ∧ goodHint (hdat hv) = true ∧ str (hintText (hdat hv)) = s) ∨
      ((∀ h, goodHint h = true → str (hintText h) ≠ s) ∧ e = .returned (.tuple #[.agg #[.slice none 0 0], .int .i64 2]))) ∧ Below w.heap.size w w') := hPost
  clear hPost
  have hc := cDecodeHint_any s (w.alloc (.cells #[.slice none 0 0] 31)) hs
  go_enter Try.func20, Try.ntmps20
  go_wp2_with fail
  refine hc.mono ?_
  clear hc
  rintro e w1 ⟨hor, hb1⟩
  have hz1 := hb1.size
  simp at hz1
  have x0 : w1.cell? ⟨w.heap.size, 0, none⟩ = some (.slice none 0 0) := (hb1.cell (by simp)).trans (by simp)
  have xf : w1.frozen? ⟨w.heap.size, 0, none⟩ = false := (hb1.frozen (by simp)).trans (by simp)
  have hb2 : Below w.heap.size w w1 := ((Below.refl _ _).alloc (Nat.le_refl _) _).trans (hb1.mono (by simp))
  rcases hor with ⟨v, hv, rfl, ho, hg, ht⟩ | ⟨hno, rfl⟩
  · obtain ⟨ao, cap, rfl⟩ := owns_slice ho.row
    have ho' : OwnHint w1 (w.heap.size + 1) (.slice ao hv.length cap) hv := by simpa using ho
    have hfin : Post (.returned (.tuple #[.agg #[.slice ao hv.length cap], .int .i64 0])) (w1.setCell ⟨w.heap.size, 0, none⟩ (.slice ao hv.length cap)) := by
      rw [HP.out]
      exact ⟨.inl ⟨_, hv, rfl, (ho'.set (by simp) _).base (by omega), hg, ht⟩, hb2.setCell (by simp) _⟩
    clear HP ho ho' hg ht
    go_wp2
    exact bodyPost_ret (v := .tuple #[.agg #[.slice ao hv.length cap], .int .i64 0]) (by simp [results, Try.results20, go_sem, x0]) rfl hfin
  · have hfin : Post (.returned (.tuple #[.agg #[.slice none 0 0], .int .i64 2])) (w1.setCell ⟨w.heap.size, 0, none⟩ (.slice none 0 0)) := by
      rw [HP.out]
      exact ⟨.inr ⟨hno, rfl⟩, hb2.setCell (by simp) _⟩
    clear HP hno
    go_wp2
    exact bodyPost_ret (v := .tuple #[.agg #[.slice none 0 0], .int .i64 2]) (by simp [results, Try.results20, go_sem, x0]) rfl hfin

end Go.Proofs.Ytdjdjkgoelbbdaa

/- Writing behind the end of a hint's lists. -/
set_option linter.unusedSimpArgs false
set_option linter.unusedVariables false
namespace Go.Proofs.Ytdjdjkgoelbbdaa
open Go.RowKit

set_option maxRecDepth 100000 in
set_option maxHeartbeats 2000000 in
theorem behindHint_any (v : Value) (hv : List (PingD × Value)) (w : World) (base : Nat) (hown : OwnHint w base v hv) (hbs : base ≤ w.heap.size) (hl : hv.length ≤ 1000) (hl2 : ∀ x ∈ hv, x.1.pairs.length ≤ 1000)
    (S : Nat → Prop) (hSv : ∀ g, v.ownBlock = some g → S g) (hSx : ∀ x ∈ hv, ∀ g, x.2.ownBlock = some g → S g) :
    Calls Try.prog 50 #[.agg #[v]] w fun e w' => e = .returned (.tuple #[]) ∧ OwnHint w' base v hv ∧ Keep S w w' := by
  obtain ⟨i0, ii, iz0, iz1, iz2⟩ := info_parts Try.infoPing
  obtain ⟨j0, ji, jz0, jz1, jz2⟩ := info_parts Try.infoPair
  obtain ⟨ao, cap, rfl⟩ := owns_slice hown.row
  have hrd := hown.rd
  go_enter Try.func50, Try.ntmps50
  go_wp2
  go_loopw [2] (fun i wr => ∃ (k : Nat), k ≤ hv.length ∧ i = .int .i64 k ∧ OwnHint wr base (.slice ao hv.length cap) hv ∧ wr.cell? ⟨w.heap.size, 0, none⟩ = some (.slice ao hv.length cap) ∧ Keep S w wr ∧ w.heap.size + 1 ≤ wr.heap.size)
    (fun i _ => hv.length - (intOf i).toNat)
  case atStart => exact ⟨0, Nat.zero_le _, rfl, hown.alloc _, by simp, (Keep.refl _ _).alloc _, by simp⟩
  case round =>
    obtain ⟨k, hk, rfl, ho, hx0, hbel, hz⟩ := hrel
    by_cases hlt : k < hv.length
    case neg =>
      obtain ⟨wo, hwo⟩ : ∃ wo, wo = wr := ⟨_, rfl⟩
      subst hwo
      go_wp2
      go_loopw [5, 6] (fun l i w2 => ∃ (j : Nat), j ≤ 9 ∧ i = .int .i64 j ∧ OwnHint w2 base (.slice ao hv.length cap) hv ∧ w2.ownsRow base 82 2 l (hv.length + j) (pingCells hv ++ pad [.int .i64 0, .slice none 0 0] j) ∧ Hid (∀ g, l.ownBlock = some g → S g ∨ w.heap.size ≤ g) ∧ Keep S w w2 ∧ w.heap.size + 1 ≤ w2.heap.size)
        (fun _ i _ => 9 - (intOf i).toNat)
      case atStart => exact ⟨0, Nat.zero_le _, rfl, ho, by simpa [pad] using ho.row, fun g hg => .inl (hSv g hg), hbel, hz⟩
      case round =>
        obtain ⟨j, hj, rfl, ho2, hrow, hlb, hbin, hz2⟩ := hrel
        obtain ⟨lo, lc, rfl⟩ := owns_slice hrow
        by_cases hjl : j < 9
        · have HP : Hid (pad [.int .i64 0, .slice none 0 0] (j + 1) = pad [.int .i64 0, .slice none 0 0] j ++ [.int .i64 0, .slice none 0 0]) := rfl
          go_wp2_with (at_builtin; refine wpList_append_stay _ rfl _ _ 29 rfl base 82 i0 (.agg #[.int .i64 0, .slice none 0 0]) 2 32 Try.underlying29 ii iz0 iz1 iz2 rfl (by decide) _ _ _ rfl (hrow.alloc _) ⟨wr.heap.size, 0, none⟩ 1 1 [.int .i64 0, .slice none 0 0] rfl rfl (two_new wr _ _ _) ?d2 ?d3 ?d4 ?d5 (by decide) ?_)
          case d2 => first | exact ⟨rfl, rfl⟩ | (intro u hu; simp at hu; rcases hu with rfl | rfl <;> rfl)
          case d3 => unfold maxLen; omega
          case d4 => omega
          case d5 => first | omega | (simp; omega)
          intro v' w2 hrow' hgrow hstay hfr
          try rw [List.append_assoc] at hrow'
          rw [← HP.out] at hrow'
          have ho3 := (ho2.alloc _).appOut (hrow.alloc _) (fun g _ _ => ⟨_, rfl⟩) hgrow hstay
          have hb3 := (hbin.alloc _).grown hgrow hlb.out
          have hlb' : Hid (∀ g, v'.ownBlock = some g → S g ∨ w.heap.size ≤ g) := fun g hg => by
            rcases hfr g hg with e | e
            · exact hlb.out g e
            · exact .inr (by omega)
          have hz3 := hgrow.size
          simp at hz3
          obtain ⟨lo', lc', rfl⟩ := owns_slice hrow'
          clear hgrow hstay hfr hrow ho2 hbin
          go_wp2
          go_roundw
          case rel => exact ⟨j + 1, by omega, by go_num, ho3, hrow', hlb', hb3, by omega⟩
          case measure => simp [intOf]; omega
        · go_wp2
          go_end0
          exact ⟨rfl, ho2, hbin⟩
    obtain ⟨wo, hwo⟩ : ∃ wo, wo = wr := ⟨_, rfl⟩
    subst hwo
    obtain ⟨b, rfl, hbb, c1, c2, cf⟩ := ownHint_at ho hlt
    have hsl := hl2 _ (List.getElem_mem hlt)
    have hrow0 := ho.each _ (List.getElem_mem hlt)
    have hpre0 := PreP.start ho hlt
    have hne0 : Hid (∀ g, hv[k].2.ownBlock = some g → S g ∧ g < w.heap.size ∨ w.heap.size + 1 ≤ g) := fun g hg => .inl ⟨hSx _ (List.getElem_mem hlt) g hg, ((hown.each _ (List.getElem_mem hlt)).lt g hg).2⟩
    generalize hv[k].1.pairs = ps at *
    generalize hv[k].2 = sv at *
    go_wp2
    go_loopw [3, 4] (fun l i w2 => ∃ (j : Nat), j ≤ 9 ∧ i = .int .i64 j ∧ OwnHint w2 base (.slice (some ⟨b, 0, none⟩) hv.length cap) hv ∧ w2.ownsRow base 84 2 l (ps.length + j) (pairCells ps ++ pad [.int .i64 77, .int .i64 0] j) ∧ PreP hv l (pairCells ps ++ pad [.int .i64 77, .int .i64 0] j) ∧
        Hid (∀ g, l.ownBlock = some g → S g ∧ g < w.heap.size ∨ w.heap.size + 1 ≤ g) ∧ w2.cell? ⟨w.heap.size, 0, none⟩ = some (.slice (some ⟨b, 0, none⟩) hv.length cap) ∧ Keep S w w2 ∧ w.heap.size + 1 ≤ w2.heap.size)
      (fun _ i _ => 9 - (intOf i).toNat)
    case atStart => exact ⟨0, Nat.zero_le _, rfl, ho, by simpa [pad] using hrow0, by simpa [pad] using hpre0, hne0, hx0, hbel, hz⟩
    case round =>
      obtain ⟨j, hj, rfl, ho2, hrow, hpre, hne, hy0, hbin, hz2⟩ := hrel
      obtain ⟨lo, lc, rfl⟩ := owns_slice hrow
      by_cases hjl : j < 9
      · have HP : Hid (pad [.int .i64 77, .int .i64 0] (j + 1) = pad [.int .i64 77, .int .i64 0] j ++ [.int .i64 77, .int .i64 0]) := rfl
        go_wp2_with (at_builtin; refine wpList_append_stay _ rfl _ _ 80 rfl base 84 j0 (.agg #[.int .i64 0, .int .i64 0]) 2 16 Try.underlying80 ji jz0 jz1 jz2 rfl (by decide) _ _ _ rfl (hrow.alloc _) ⟨wr.heap.size, 0, none⟩ 1 1 [.int .i64 77, .int .i64 0] rfl rfl (two_new wr _ _ _) ?e2 ?e3 ?e4 ?e5 (by decide) ?_)
        case e2 => first | exact ⟨rfl, rfl⟩ | (intro u hu; simp at hu; rcases hu with rfl | rfl <;> rfl)
        case e3 => unfold maxLen; omega
        case e4 => omega
        case e5 => first | omega | (simp; omega)
        intro v' w2 hrow' hgrow hstay hfr
        have hpre' := PreP.step (news := [.int .i64 77, .int .i64 0]) ho2 hpre (fun g hg => by rcases hfr g hg with e | e; exact .inl e; exact .inr (by omega))
        try rw [List.append_assoc] at hrow'
        rw [← HP.out] at hrow'
        rw [List.append_assoc, ← HP.out] at hpre'
        have ho3 := (ho2.alloc _).app (hrow.alloc _) hpre hgrow hstay
        have hb3 := (hbin.alloc _).grown hgrow (fun g hg => by
          rcases hne.out g hg with e | e
          · exact .inl e.1
          · exact .inr (by omega))
        have hy3 : w2.cell? ⟨w.heap.size, 0, none⟩ = some (.slice (some ⟨b, 0, none⟩) hv.length cap) := hgrow.cell (by rw [World.cell?_alloc_lt _ _ _ (by show w.heap.size < _; omega)]; exact hy0) (fun e => by rcases hne.out _ e.symm with e1 | e1; exact absurd e1.2 (Nat.lt_irrefl _); exact absurd e1 (by simp))
        have hne' : Hid (∀ g, v'.ownBlock = some g → S g ∧ g < w.heap.size ∨ w.heap.size + 1 ≤ g) := fun g hg => by
          rcases hfr g hg with e | e
          · exact hne.out g e
          · exact .inr (by omega)
        have hz3 := hgrow.size
        simp at hz3
        obtain ⟨lo', lc', rfl⟩ := owns_slice hrow'
        clear hgrow hstay hfr hrow ho2 hbin hpre hy0 hne
        go_wp2
        go_roundw
        case rel => exact ⟨j + 1, by omega, by go_num, ho3, hrow', hpre', hne', hy3, hb3, by omega⟩
        case measure => simp [intOf]; omega
      · go_wp2
        go_roundw
        case rel => exact ⟨k + 1, by omega, by go_num, ho2, hy0, hbin, hz2⟩
        case measure => simp [intOf]; omega

end Go.Proofs.Ytdjdjkgoelbbdaa
