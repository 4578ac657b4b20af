/- Does a hint with spare room read as it did? -/
import Derived.Test.YtblhmeidbjigaaaRows
import Derived.WalkKit
import Derived.WalkSpells
import Derived.WalkLawsBesides
import Derived.Laws.BytesArg
import Derived.Deep.QuietTactic
import Derived.BigQuiet
import Derived.Deep.RegionHeld3
import Derived.ProofKit
import Derived.SizedLaws
import Derived.Deep.Slices
import Derived.Lib.SmallJoins
import Derived.Test.YtblhmeidbjigaaaLawHToLawKHints

set_option linter.unusedSimpArgs false
set_option linter.unusedVariables false
namespace Go.Proofs.Ytblhmeidbjigaaa
open Go.RowKit

theorem rows_rd {w : World} {hv : List (PingD × Value)} {L cap : Nat} {t : List Value} (hl : Lies w hv) (hL : Row w L 94 (pingCells hv ++ t)) (hn : hv.length ≤ 9223372036854775807) (hn2 : ∀ x ∈ hv, x.1.pairs.length ≤ 9223372036854775807) :
    RdHint w (.slice (some ⟨L, 0, none⟩) hv.length cap) (hdat hv) := by
  refine ⟨_, _, by rw [hdat_length], by rw [hdat_length]; exact hn, fun i hi => ?_⟩
  rw [hdat_length] at hi
  have hpl := pingCells_length hv
  obtain ⟨g1, g2⟩ := pingCells_get hv i hi
  obtain ⟨e1, e2⟩ := hdat_get hv hi
  obtain ⟨p, ep, hp⟩ := hl _ (List.getElem_mem hi)
  refine ⟨L, 0, hv[i].2, rfl, ?_, ?_, ?_⟩
  · rw [Nat.zero_add, e1]; exact hL.cell (by rw [List.getElem?_append_left (by omega)]; exact g1)
  · rw [Nat.zero_add]; exact hL.cell (by rw [List.getElem?_append_left (by omega)]; exact g2)
  · rw [e2, ep]
    refine ⟨_, _, rfl, hn2 _ (List.getElem_mem hi), fun j hj => ?_⟩
    have hql := pairCells_length hv[i].1.pairs
    obtain ⟨k1, k2⟩ := pairCells_get hv[i].1.pairs j hj
    refine ⟨p, 0, rfl, ?_, ?_⟩
    · rw [Nat.zero_add]; exact hp.cell (by rw [List.getElem?_append_left (by omega)]; exact k1)
    · rw [Nat.zero_add]; exact hp.cell (by rw [List.getElem?_append_left (by omega)]; exact k2)

theorem Lies.keep {w w' : World} {hv : List (PingD × Value)} (h : Lies w hv) (hb : Below w.heap.size w w') : Lies w' hv := lies_step h fun _ _ hp => hp.keep hb

set_option maxRecDepth 100000 in
set_option maxHeartbeats 2000000 in
theorem wholeHint_any (hv : List (PingD × Value)) (L D : Nat) (u : Value) (w : World) (hl : Lies w hv) (hL : Row w L 94 (pingCells hv ++ [.int .i64 77, .slice none 0 0])) (hD : Row w D 94 (pingCells hv)) (hu : RdHint w u (hdat hv))
    (hn : hv.length ≤ 4398046511104) (hn2 : ∀ x ∈ hv, x.1.pairs.length ≤ 8796093022208) :
    Calls Try.prog 37 #[.agg #[.slice (some ⟨L, 0, none⟩) hv.length (hv.length + 1)], .slice (some ⟨D, 0, none⟩) hv.length hv.length, .agg #[u]] w fun e w' => e = .returned (.bool true) ∧ Below w.heap.size w w' := by
  have n1 : hv.length ≤ 9223372036854775807 := by omega
  have n2 : ∀ x ∈ hv, x.1.pairs.length ≤ 9223372036854775807 := fun x hx => by have := hn2 x hx; omega
  have r1 := rows_rd (cap := hv.length + 1) hl hL n1 n2
  have r2 := rows_rd (t := []) (cap := hv.length) hl (by simpa using hD) n1 n2
  obtain ⟨uo, uc, ue, _, _⟩ := id hu
  subst ue
  rw [hdat_length] at hu ⊢
  have hnq := fun (w : World) => run_neq_slice_nil_any (P := Try.prog) w 92 96 none 0 0 0 0 Try.underlying92
  have HL := hL.lt
  have HD := hD.lt
  go_enter Try.func37, Try.ntmps37
  go_wp2_with fail
  refine (sameHint_any _ _ _ _ (r1.keep (((Below.refl _ _).alloc (Nat.le_refl _) _).alloc (by simp) _)) (hu.keep (((Below.refl _ _).alloc (Nat.le_refl _) _).alloc (by simp) _))).mono ?_
  rintro e w1 ⟨rfl, hb1⟩
  have hb1' : Below (w.heap.size + 2) ((w.alloc (.cells #[.slice (some ⟨L, 0, none⟩) hv.length (hv.length + 1)] 31)).alloc (.cells #[.slice uo hv.length uc] 31)) w1 := by simpa using hb1
  clear hb1
  have hb01 : Below w.heap.size w w1 := (((Below.refl w.heap.size w).alloc (Nat.le_refl _) _).alloc (by simp) _).trans (hb1'.mono (by omega))
  have x0 : w1.cell? ⟨w.heap.size, 0, none⟩ = some (.slice (some ⟨L, 0, none⟩) hv.length (hv.length + 1)) := (hb1'.cell (by simp)).trans (by simp)
  have x1 : w1.cell? ⟨w.heap.size + 1, 0, none⟩ = some (.slice uo hv.length uc) := (hb1'.cell (by simp)).trans (by simp)
  go_wp2_with fail
  refine (sameHint_any _ _ _ _ (r2.keep hb01) (hu.keep hb01)).mono ?_
  rintro e w2 ⟨rfl, hb2⟩
  have hz1 := hb1'.size
  simp at hz1
  have hb02 := hb01.trans (hb2.mono (by omega))
  have y0 := cell_keep hb2 x0
  have hL2 := hL.keep hb02
  have hD2 := hD.keep hb02
  have hl2 := hl.keep hb02
  have hpl := pingCells_length hv
  have l0 := hL2.cell (i := hv.length * 2) (u := .int .i64 77) (by rw [List.getElem?_append_right (by omega), hpl, Nat.sub_self]; rfl)
  have l1 := hL2.cell (i := hv.length * 2 + 1) (u := .slice none 0 0) (by rw [List.getElem?_append_right (by omega), hpl, Nat.add_sub_cancel_left]; rfl)
  clear x0 x1 r1 r2 hb1' hb01 hb2 hL hD hl
  go_wp2
  go_loop [11] (fun i => ∃ (k : Nat), k ≤ hv.length ∧ i = .int .i64 k) (fun i => hv.length - (intOf i).toNat)
  case atStart => exact ⟨0, Nat.zero_le _, rfl⟩
  case round =>
    obtain ⟨k, hk, rfl⟩ := hrel
    by_cases hlt : k < hv.length
    · obtain ⟨g1, g2⟩ := pingCells_get hv k hlt
      obtain ⟨p, ep, hp⟩ := hl2 _ (List.getElem_mem hlt)
      have hm := hn2 _ (List.getElem_mem hlt)
      have d2 := hD2.cell g2
      rw [ep] at d2
      have hql := pairCells_length hv[k].1.pairs
      have p0 := hp.cell (i := hv[k].1.pairs.length * 2) (u := .int .i64 77) (by rw [List.getElem?_append_right (by omega), hql, Nat.sub_self]; rfl)
      clear ep g1 g2 hql hp
      generalize hv[k].1.pairs.length = m at *
      go_wp2
      go_round
      case rel => exact ⟨k + 1, by omega, by go_num⟩
      case measure => simp [intOf]; omega
    · go_wp2
      go_ret
      exact ⟨rfl, hb02⟩

/-! ### The calls themselves -/

set_option maxRecDepth 100000 in
set_option maxHeartbeats 1000000 in
theorem tEncodeHint_any (v : Value) (h : List PingD) (w : World) (hr : RdHint w v h) :
    Calls Try.prog 19 #[.agg #[v]] w fun e w' => e = .returned (.tuple (if goodHint h then #[.string (str (hintText h)), .int .i64 0] else #[.string ⟨#[]⟩, .int .i64 2])) ∧ Below w.heap.size w w' := by
  obtain ⟨ao, cap, e0, _, _⟩ := id hr
  subst e0
  have hc := cEncodeHint_any _ h (w.alloc (.cells #[.slice ao h.length cap] 31)) (hr.keep ((Below.refl _ _).alloc (Nat.le_refl _) _))
  cases hg : goodHint h
  · simp only [hg] at hc
    go_enter Try.func19, Try.ntmps19
    go_wp2_with fail
    refine hc.mono ?_
    rintro e w1 ⟨rfl, hb1⟩
    clear hc
    go_wp2
    go_ret2
    exact ⟨by simp [hg], ((Below.refl _ _).alloc (Nat.le_refl _) _).trans (hb1.mono (by simp))⟩
  · simp only [hg] at hc
    go_enter Try.func19, Try.ntmps19
    go_wp2_with fail
    refine hc.mono ?_
    rintro e w1 ⟨rfl, hb1⟩
    clear hc
    go_wp2
    go_ret2
    exact ⟨by simp [hg], ((Below.refl _ _).alloc (Nat.le_refl _) _).trans (hb1.mono (by simp))⟩

set_option maxRecDepth 100000 in
set_option maxHeartbeats 1000000 in
theorem tDecodeHint_any (s : ByteArray) (w : World) (hs : s.size ≤ maxLen) :
    Calls Try.prog 18 #[.string s] w fun e w' => ((∃ v hv, e = .returned (.tuple #[.agg #[v], .int .i64 0]) ∧ OwnHint w' w.heap.size v hv ∧ goodHint (hdat hv) = true ∧ str (hintText (hdat hv)) = s) ∨
      ((∀ h, goodHint h = true → str (hintText h) ≠ s) ∧ e = .returned (.tuple #[.agg #[.slice none 0 0], .int .i64 2]))) ∧ Below w.heap.size w w' := by
  obtain ⟨Post, hPost⟩ : ∃ Post : Ending → World → Prop, Post = fun e w' => ((∃ v hv, e = .returned (.tuple #[.agg #[v], .int .i64 0]) ∧ OwnHint w' w.heap.size v hv ∧ goodHint (hdat hv) = true ∧ str (hintText (hdat hv)) = s) ∨
      ((∀ h, goodHint h = true → str (hintText h) ≠ s) ∧ e = .returned (.tuple #[.agg #[.slice none 0 0], .int .i64 2]))) ∧ Below w.heap.size w w' := ⟨_, rfl⟩
  rw [← hPost]
  have HP : Hid (Post = fun e w' => ((∃ v hv, e = .returned (.tuple #[.agg #[v], .int .i64 0]) ∧ OwnHint w' w.heap.size v hv ∧ goodHint (hdat hv) = true ∧ str (hintText (hdat hv)) = s) ∨
      ((∀ h, goodHint h = true → str (hintText h) ≠ s) ∧ e = .returned (.tuple #[.agg #[.slice none 0 0], .int .i64 2]))) ∧ Below w.heap.size w w') := hPost
  clear hPost
  have hc := cDecodeHint_any s (w.alloc (.cells #[.slice none 0 0] 31)) hs
  go_enter Try.func18, Try.ntmps18
  go_wp2_with fail
  refine hc.mono ?_
  clear hc
  rintro e w1 ⟨hor, hb1⟩
  have hz1 := hb1.size
  simp at hz1
  have x0 : w1.cell? ⟨w.heap.size, 0, none⟩ = some (.slice none 0 0) := (hb1.cell (by simp)).trans (by simp)
  have xf : w1.frozen? ⟨w.heap.size, 0, none⟩ = false := (hb1.frozen (by simp)).trans (by simp)
  have hb2 : Below w.heap.size w w1 := ((Below.refl _ _).alloc (Nat.le_refl _) _).trans (hb1.mono (by simp))
  rcases hor with ⟨v, hv, rfl, ho, hg, ht⟩ | ⟨hno, rfl⟩
  · obtain ⟨ao, cap, rfl⟩ := owns_slice ho.row
    have ho' : OwnHint w1 (w.heap.size + 1) (.slice ao hv.length cap) hv := by simpa using ho
    have hfin : Post (.returned (.tuple #[.agg #[.slice ao hv.length cap], .int .i64 0])) (w1.setCell ⟨w.heap.size, 0, none⟩ (.slice ao hv.length cap)) := by
      rw [HP.out]
      exact ⟨.inl ⟨_, hv, rfl, (ho'.set (by simp) _).base (by omega), hg, ht⟩, hb2.setCell (by simp) _⟩
    clear HP ho ho' hg ht
    go_wp2
    exact bodyPost_ret (v := .tuple #[.agg #[.slice ao hv.length cap], .int .i64 0]) (by simp [results, Try.results18, go_sem, x0]) rfl hfin
  · have hfin : Post (.returned (.tuple #[.agg #[.slice none 0 0], .int .i64 2])) (w1.setCell ⟨w.heap.size, 0, none⟩ (.slice none 0 0)) := by
      rw [HP.out]
      exact ⟨.inr ⟨hno, rfl⟩, hb2.setCell (by simp) _⟩
    clear HP hno
    go_wp2
    exact bodyPost_ret (v := .tuple #[.agg #[.slice none 0 0], .int .i64 2]) (by simp [results, Try.results18, go_sem, x0]) rfl hfin

end Go.Proofs.Ytblhmeidbjigaaa

/- Writing behind the end of a hint's lists. -/
set_option linter.unusedSimpArgs false
set_option linter.unusedVariables false
namespace Go.Proofs.Ytblhmeidbjigaaa
open Go.RowKit

set_option maxRecDepth 100000 in
set_option maxHeartbeats 2000000 in
theorem behindHint_any (v : Value) (hv : List (PingD × Value)) (w : World) (base : Nat) (hown : OwnHint w base v hv) (hbs : base ≤ w.heap.size) (hl : hv.length ≤ 1000) (hl2 : ∀ x ∈ hv, x.1.pairs.length ≤ 1000)
    (S : Nat → Prop) (hSv : ∀ g, v.ownBlock = some g → S g) (hSx : ∀ x ∈ hv, ∀ g, x.2.ownBlock = some g → S g) :
    Calls Try.prog 42 #[.agg #[v]] w fun e w' => e = .returned (.tuple #[]) ∧ OwnHint w' base v hv ∧ Keep S w w' := by
  obtain ⟨i0, ii, iz0, iz1, iz2⟩ := info_parts Try.infoPing
  obtain ⟨j0, ji, jz0, jz1, jz2⟩ := info_parts Try.infoPair
  obtain ⟨ao, cap, rfl⟩ := owns_slice hown.row
  have hrd := hown.rd
  go_enter Try.func42, Try.ntmps42
  go_wp2
  go_loopw [2] (fun i wr => ∃ (k : Nat), k ≤ hv.length ∧ i = .int .i64 k ∧ OwnHint wr base (.slice ao hv.length cap) hv ∧ wr.cell? ⟨w.heap.size, 0, none⟩ = some (.slice ao hv.length cap) ∧ Keep S w wr ∧ w.heap.size + 1 ≤ wr.heap.size)
    (fun i _ => hv.length - (intOf i).toNat)
  case atStart => exact ⟨0, Nat.zero_le _, rfl, hown.alloc _, by simp, (Keep.refl _ _).alloc _, by simp⟩
  case round =>
    obtain ⟨k, hk, rfl, ho, hx0, hbel, hz⟩ := hrel
    by_cases hlt : k < hv.length
    case neg =>
      obtain ⟨wo, hwo⟩ : ∃ wo, wo = wr := ⟨_, rfl⟩
      subst hwo
      go_wp2
      go_loopw [5, 6] (fun l i w2 => ∃ (j : Nat), j ≤ 9 ∧ i = .int .i64 j ∧ OwnHint w2 base (.slice ao hv.length cap) hv ∧ w2.ownsRow base 94 2 l (hv.length + j) (pingCells hv ++ pad [.int .i64 0, .slice none 0 0] j) ∧ Hid (∀ g, l.ownBlock = some g → S g ∨ w.heap.size ≤ g) ∧ Keep S w w2 ∧ w.heap.size + 1 ≤ w2.heap.size)
        (fun _ i _ => 9 - (intOf i).toNat)
      case atStart => exact ⟨0, Nat.zero_le _, rfl, ho, by simpa [pad] using ho.row, fun g hg => .inl (hSv g hg), hbel, hz⟩
      case round =>
        obtain ⟨j, hj, rfl, ho2, hrow, hlb, hbin, hz2⟩ := hrel
        obtain ⟨lo, lc, rfl⟩ := owns_slice hrow
        by_cases hjl : j < 9
        · have HP : Hid (pad [.int .i64 0, .slice none 0 0] (j + 1) = pad [.int .i64 0, .slice none 0 0] j ++ [.int .i64 0, .slice none 0 0]) := rfl
          go_wp2_with (at_builtin; refine wpList_append_stay _ rfl _ _ 29 rfl base 94 i0 (.agg #[.int .i64 0, .slice none 0 0]) 2 32 Try.underlying29 ii iz0 iz1 iz2 rfl (by decide) _ _ _ rfl (hrow.alloc _) ⟨wr.heap.size, 0, none⟩ 1 1 [.int .i64 0, .slice none 0 0] rfl rfl (two_new wr _ _ _) ?d2 ?d3 ?d4 ?d5 (by decide) ?_)
          case d2 => first | exact ⟨rfl, rfl⟩ | (intro u hu; simp at hu; rcases hu with rfl | rfl <;> rfl)
          case d3 => unfold maxLen; omega
          case d4 => omega
          case d5 => first | omega | (simp; omega)
          intro v' w2 hrow' hgrow hstay hfr
          try rw [List.append_assoc] at hrow'
          rw [← HP.out] at hrow'
          have ho3 := (ho2.alloc _).appOut (hrow.alloc _) (fun g _ _ => ⟨_, rfl⟩) hgrow hstay
          have hb3 := (hbin.alloc _).grown hgrow hlb.out
          have hlb' : Hid (∀ g, v'.ownBlock = some g → S g ∨ w.heap.size ≤ g) := fun g hg => by
            rcases hfr g hg with e | e
            · exact hlb.out g e
            · exact .inr (by omega)
          have hz3 := hgrow.size
          simp at hz3
          obtain ⟨lo', lc', rfl⟩ := owns_slice hrow'
          clear hgrow hstay hfr hrow ho2 hbin
          go_wp2
          go_roundw
          case rel => exact ⟨j + 1, by omega, by go_num, ho3, hrow', hlb', hb3, by omega⟩
          case measure => simp [intOf]; omega
        · go_wp2
          go_end0
          exact ⟨rfl, ho2, hbin⟩
    obtain ⟨wo, hwo⟩ : ∃ wo, wo = wr := ⟨_, rfl⟩
    subst hwo
    obtain ⟨b, rfl, hbb, c1, c2, cf⟩ := ownHint_at ho hlt
    have hsl := hl2 _ (List.getElem_mem hlt)
    have hrow0 := ho.each _ (List.getElem_mem hlt)
    have hpre0 := PreP.start ho hlt
    have hne0 : Hid (∀ g, hv[k].2.ownBlock = some g → S g ∧ g < w.heap.size ∨ w.heap.size + 1 ≤ g) := fun g hg => .inl ⟨hSx _ (List.getElem_mem hlt) g hg, ((hown.each _ (List.getElem_mem hlt)).lt g hg).2⟩
    generalize hv[k].1.pairs = ps at *
    generalize hv[k].2 = sv at *
    go_wp2
    go_loopw [3, 4] (fun l i w2 => ∃ (j : Nat), j ≤ 9 ∧ i = .int .i64 j ∧ OwnHint w2 base (.slice (some ⟨b, 0, none⟩) hv.length cap) hv ∧ w2.ownsRow base 96 2 l (ps.length + j) (pairCells ps ++ pad [.int .i64 77, .int .i64 0] j) ∧ PreP hv l (pairCells ps ++ pad [.int .i64 77, .int .i64 0] j) ∧
        Hid (∀ g, l.ownBlock = some g → S g ∧ g < w.heap.size ∨ w.heap.size + 1 ≤ g) ∧ w2.cell? ⟨w.heap.size, 0, none⟩ = some (.slice (some ⟨b, 0, none⟩) hv.length cap) ∧ Keep S w w2 ∧ w.heap.size + 1 ≤ w2.heap.size)
      (fun _ i _ => 9 - (intOf i).toNat)
    case atStart => exact ⟨0, Nat.zero_le _, rfl, ho, by simpa [pad] using hrow0, by simpa [pad] using hpre0, hne0, hx0, hbel, hz⟩
    case round =>
      obtain ⟨j, hj, rfl, ho2, hrow, hpre, hne, hy0, hbin, hz2⟩ := hrel
      obtain ⟨lo, lc, rfl⟩ := owns_slice hrow
      by_cases hjl : j < 9
      · have HP : Hid (pad [.int .i64 77, .int .i64 0] (j + 1) = pad [.int .i64 77, .int .i64 0] j ++ [.int .i64 77, .int .i64 0]) := rfl
        go_wp2_with (at_builtin; refine wpList_append_stay _ rfl _ _ 92 rfl base 96 j0 (.agg #[.int .i64 0, .int .i64 0]) 2 16 Try.underlying92 ji jz0 jz1 jz2 rfl (by decide) _ _ _ rfl (hrow.alloc _) ⟨wr.heap.size, 0, none⟩ 1 1 [.int .i64 77, .int .i64 0] rfl rfl (two_new wr _ _ _) ?e2 ?e3 ?e4 ?e5 (by decide) ?_)
        case e2 => first | exact ⟨rfl, rfl⟩ | (intro u hu; simp at hu; rcases hu with rfl | rfl <;> rfl)
        case e3 => unfold maxLen; omega
        case e4 => omega
        case e5 => first | omega | (simp; omega)
        intro v' w2 hrow' hgrow hstay hfr
        have hpre' := PreP.step (news := [.int .i64 77, .int .i64 0]) ho2 hpre (fun g hg => by rcases hfr g hg with e | e; exact .inl e; exact .inr (by omega))
        try rw [List.append_assoc] at hrow'
        rw [← HP.out] at hrow'
        rw [List.append_assoc, ← HP.out] at hpre'
        have ho3 := (ho2.alloc _).app (hrow.alloc _) hpre hgrow hstay
        have hb3 := (hbin.alloc _).grown hgrow (fun g hg => by
          rcases hne.out g hg with e | e
          · exact .inl e.1
          · exact .inr (by omega))
        have hy3 : w2.cell? ⟨w.heap.size, 0, none⟩ = some (.slice (some ⟨b, 0, none⟩) hv.length cap) := hgrow.cell (by rw [World.cell?_alloc_lt _ _ _ (by show w.heap.size < _; omega)]; exact hy0) (fun e => by rcases hne.out _ e.symm with e1 | e1; exact absurd e1.2 (Nat.lt_irrefl _); exact absurd e1 (by simp))
        have hne' : Hid (∀ g, v'.ownBlock = some g → S g ∧ g < w.heap.size ∨ w.heap.size + 1 ≤ g) := fun g hg => by
          rcases hfr g hg with e | e
          · exact hne.out g e
          · exact .inr (by omega)
        have hz3 := hgrow.size
        simp at hz3
        obtain ⟨lo', lc', rfl⟩ := owns_slice hrow'
        clear hgrow hstay hfr hrow ho2 hbin hpre hy0 hne
        go_wp2
        go_roundw
        case rel => exact ⟨j + 1, by omega, by go_num, ho3, hrow', hpre', hne', hy3, hb3, by omega⟩
        case measure => simp [intOf]; omega
      · go_wp2
        go_roundw
        case rel => exact ⟨k + 1, by omega, by go_num, ho2, hy0, hbin, hz2⟩
        case measure => simp [intOf]; omega

end Go.Proofs.Ytblhmeidbjigaaa

/- The owner writes into each list of a hint. -/
set_option linter.unusedSimpArgs false
set_option linter.unusedVariables false
namespace Go.Proofs.Ytblhmeidbjigaaa
open Go.RowKit

/-- The first k blocks bear their marks. -/
def Mkd (mark : Int) (k : Nat) (hv : List (PingD × Value)) : Prop := ∀ i (hi : i < hv.length), i < k → hv[i].1.src = mark + i ∧ ∀ j, j < hv[i].1.pairs.length → preg hv[i].1.pairs j = mark + i

theorem Mkd.set {mark : Int} {k : Nat} {hv : List (PingD × Value)} (h : Mkd mark k hv) (x : PingD × Value) : Mkd mark k (hv.set k x) := by
  intro i hi hik
  have e : (hv.set k x)[i] = hv[i]'(by simpa using hi) := by rw [List.getElem_set, if_neg (by omega)]
  rw [e]
  exact h i _ hik

set_option maxRecDepth 100000 in
set_option maxHeartbeats 4000000 in
theorem ownHint_any (v : Value) (hv : List (PingD × Value)) (w : World) (base : Nat) (mark : Int) (hown : OwnHint w base v hv) (hbs : base ≤ w.heap.size) (hl : hv.length ≤ 1000) (hl2 : ∀ x ∈ hv, x.1.pairs.length ≤ 1000) (hm : 0 ≤ mark ∧ mark ≤ 4611686018427387904)
    (S : Nat → Prop) (hSv : ∀ g, v.ownBlock = some g → S g) (hSx : ∀ x ∈ hv, ∀ g, x.2.ownBlock = some g → S g) :
    Calls Try.prog 43 #[.agg #[v], .int .i64 mark] w fun e w' => e = .returned (.bool true) ∧ (∃ hv', OwnHint w' base v hv') ∧ Keep S w w' := by
  obtain ⟨ao, cap, rfl⟩ := owns_slice hown.row
  go_enter Try.func43, Try.ntmps43
  go_wp2
  go_loopw [5] (fun i wr => ∃ (k : Nat) (hu : List (PingD × Value)), k ≤ hv.length ∧ i = .int .i64 k ∧ Hid (hu.length = hv.length) ∧ Hid (∀ x ∈ hu, x.1.pairs.length ≤ 1000) ∧ Hid (∀ x ∈ hu, ∀ g, x.2.ownBlock = some g → g < w.heap.size ∧ S g) ∧ Mkd mark k hu ∧ OwnHint wr base (.slice ao hv.length cap) hu ∧ wr.cell? ⟨w.heap.size, 0, none⟩ = some (.slice ao hv.length cap) ∧ Keep S w wr ∧ w.heap.size + 1 ≤ wr.heap.size)
    (fun i _ => hv.length - (intOf i).toNat)
  case atStart => exact ⟨0, hv, Nat.zero_le _, rfl, rfl, hl2, fun x hx g hg => ⟨((hown.each x hx).lt g hg).2, hSx x hx g hg⟩, fun i hi h0 => by omega, hown.alloc _, by simp, (Keep.refl _ _).alloc _, by simp⟩
  case round =>
    obtain ⟨k, hu, hk, rfl, hlen, hlp, hlo, hmk, ho, hx0, hbel, hz⟩ := hrel
    have hzl : w.heap.size < wr.heap.size := by omega
    by_cases hlt : k < hv.length
    case neg =>
      obtain ⟨wo, hwo⟩ : ∃ wo, wo = wr := ⟨_, rfl⟩
      subst hwo
      have hmk0 : Mkd mark hu.length hu := fun i hi _ => hmk i hi (by have := hlen.out; omega)
      go_wp2
      clear hmk hown
      go_loop [7] (fun i => ∃ (j : Nat), j ≤ hv.length ∧ i = .int .i64 j) (fun i => hv.length - (intOf i).toNat)
      case atStart => exact ⟨0, Nat.zero_le _, rfl⟩
      case round =>
        obtain ⟨j, hj, rfl⟩ := hrel
        by_cases hjl : j < hv.length
        case neg =>
          go_wp2
          go_ret
          exact ⟨rfl, ⟨_, ho⟩, hbel⟩
        have hju : j < hu.length := by rw [hlen.out]; exact hjl
        obtain ⟨b, rfl, hbb, c1, c2, cf⟩ := ownHint_at ho hju
        have hrow := ho.each _ (List.getElem_mem hju)
        have hpl := hlp.out _ (List.getElem_mem hju)
        have hmj := hmk0 j hju hju
        rw [hmj.1] at c1
        have hmp : Hid (∀ i, i < hu[j].1.pairs.length → preg hu[j].1.pairs i = mark + j) := hmj.2
        obtain ⟨so, sc, hsv⟩ := owns_slice hrow
        rw [hsv] at c2 hrow
        clear hmj hsv
        generalize hu[j].1.pairs = ps at *
        have hnq : (mark + (j : Int) != mark + (j : Int)) = false := by simp
        go_wp2
        go_loop [8] (fun i => ∃ (m : Nat), m ≤ ps.length ∧ i = .int .i64 m) (fun i => ps.length - (intOf i).toNat)
        case atStart => exact ⟨0, Nat.zero_le _, rfl⟩
        case round =>
          obtain ⟨m, hmn, rfl⟩ := hrel
          by_cases hml : m < ps.length
          · obtain ⟨g, rfl, hgb, d1, d2, df⟩ := owns_pairs_at hrow hml
            rw [hmp.out m hml] at d1
            go_wp2
            go_round
            case rel => exact ⟨m + 1, by omega, by go_num⟩
            case measure => simp [intOf]; omega
          · go_wp2
            go_round
            case rel => exact ⟨j + 1, by omega, by go_num⟩
            case measure => simp [intOf]; omega
    obtain ⟨wo, hwo⟩ : ∃ wo, wo = wr := ⟨_, rfl⟩
    subst hwo
    have hku : k < hu.length := by rw [hlen.out]; exact hlt
    obtain ⟨b, rfl, hbb, c1, c2, cf⟩ := ownHint_at ho hku
    have hbw : b < w.heap.size := ((hown.row).lt b rfl).2
    have cf0 := cf (k * 2)
    have ho1 := ho.setSrc hku (mark + k)
    have hmk1 := hmk.set (⟨mark + k, hu[k].1.pairs⟩, hu[k].2)
    have hlen1 : Hid ((hu.set k (⟨mark + k, hu[k].1.pairs⟩, hu[k].2)).length = hv.length) := by show List.length _ = _; rw [List.length_set]; exact hlen.out
    have hlp1 : Hid (∀ x ∈ hu.set k (⟨mark + k, hu[k].1.pairs⟩, hu[k].2), x.1.pairs.length ≤ 1000) := by
      intro x hx
      rcases List.mem_or_eq_of_mem_set hx with hx | rfl
      · exact hlp.out x hx
      · exact hlp.out hu[k] (List.getElem_mem hku)
    have hlo1 : Hid (∀ x ∈ hu.set k (⟨mark + k, hu[k].1.pairs⟩, hu[k].2), ∀ g, x.2.ownBlock = some g → g < w.heap.size ∧ S g) := by
      intro x hx
      rcases List.mem_or_eq_of_mem_set hx with hx | rfl
      · exact hlo.out x hx
      · exact hlo.out hu[k] (List.getElem_mem hku)
    have hsk : Hid (hsrc (hdat (hu.set k (⟨mark + k, hu[k].1.pairs⟩, hu[k].2))) k = mark + k) := by
      show hsrc _ _ = _
      rw [(hdat_get _ (by rw [List.length_set]; exact hku)).1, List.getElem_set_self]
    have hx1 : (wo.setCell ⟨b, k * 2, none⟩ (.int .i64 (mark + k))).cell? ⟨w.heap.size, 0, none⟩ = some (.slice (some ⟨b, 0, none⟩) hv.length cap) := cell_unset (by simp) hx0
    have hb1 := hbel.setCell (p := ⟨b, k * 2, none⟩) (.inl (hSv b rfl)) (.int .i64 (mark + k))
    have hz1 : w.heap.size + 1 ≤ (wo.setCell ⟨b, k * 2, none⟩ (.int .i64 (mark + k))).heap.size := by simpa using hz
    go_wp2
    generalize hu.set k (⟨mark + k, hu[k].1.pairs⟩, hu[k].2) = h1 at *
    generalize wo.setCell ⟨b, k * 2, none⟩ (.int .i64 (mark + k)) = w1 at *
    clear hmk hlen hlp hlo ho hx0 hbel hz hzl hku c1 c2 cf cf0 hu wo
    go_loopw [6] (fun i w2 => ∃ (j : Nat) (hu : List (PingD × Value)), j ≤ 1000 ∧ i = .int .i64 j ∧ Hid (hu.length = hv.length) ∧ Hid (∀ x ∈ hu, x.1.pairs.length ≤ 1000) ∧ Hid (∀ x ∈ hu, ∀ g, x.2.ownBlock = some g → g < w.heap.size ∧ S g) ∧ Mkd mark k hu ∧ Hid (hsrc (hdat hu) k = mark + k) ∧ Hid (j ≤ (hpairs (hdat hu) k).length ∧ ∀ i, i < j → preg (hpairs (hdat hu) k) i = mark + k) ∧
        OwnHint w2 base (.slice (some ⟨b, 0, none⟩) hv.length cap) hu ∧ w2.cell? ⟨w.heap.size, 0, none⟩ = some (.slice (some ⟨b, 0, none⟩) hv.length cap) ∧ Keep S w w2 ∧ w.heap.size + 1 ≤ w2.heap.size)
      (fun i _ => 1000 - (intOf i).toNat)
    case atStart => exact ⟨0, h1, by omega, rfl, hlen1, hlp1, hlo1, hmk1, hsk, ⟨Nat.zero_le _, fun i hi => by omega⟩, ho1, hx1, hb1, hz1⟩
    case round =>
      clear hlen1 hlp1 hlo1 hmk1 hsk ho1 hx1 hb1 hz1
      obtain ⟨j, hu, hj, rfl, hlen, hlp, hlo, hmk, hsk, hpj, ho, hx0, hbel, hz⟩ := hrel
      have hku : k < hu.length := by rw [hlen.out]; exact hlt
      have hzl : w.heap.size < wr.heap.size := by omega
      obtain ⟨b', e0, _, c1, c2, cf⟩ := ownHint_at ho hku
      simp only [Option.some.injEq, Addr.mk.injEq, and_true] at e0
      obtain rfl := e0
      have hrow := ho.each _ (List.getElem_mem hku)
      have hpl := hlp.out _ (List.getElem_mem hku)
      have hlok := hlo.out _ (List.getElem_mem hku)
      have HE : Hid (hsrc (hdat hu) k = hu[k].1.src ∧ hpairs (hdat hu) k = hu[k].1.pairs) := hdat_get hu hku
      obtain ⟨so, sc, hsv⟩ := owns_slice hrow
      have hpj' : Hid (j ≤ hu[k].1.pairs.length ∧ ∀ i, i < j → preg hu[k].1.pairs i = mark + k) := by have := hpj.out; rw [HE.out.2] at this; exact this
      have hsk' : Hid (hu[k].1.src = mark + k) := by have := hsk.out; rw [HE.out.1] at this; exact this
      have HSV : Hid (hu[k].2 = .slice so hu[k].1.pairs.length sc) := hsv
      rw [hsv] at c2
      obtain ⟨n, hn⟩ : ∃ n, n = hu[k].1.pairs.length := ⟨_, rfl⟩
      rw [← hn] at c2
      have HN : Hid (n = hu[k].1.pairs.length) := hn
      have hn1000 : n ≤ 1000 := by rw [hn]; exact hpl
      by_cases hjn : j < n
      case neg =>
        have hmk' : Mkd mark (k + 1) hu := by
          intro i hi hik
          by_cases e : i = k
          · subst e
            exact ⟨hsk'.out, fun i' hi' => hpj'.out.2 i' (by omega)⟩
          · exact hmk i hi (by omega)
        clear hsv hn hpj hsk hpj' hsk' hmk HE HSV HN hrow
        go_wp2
        go_roundw
        case rel => exact ⟨k + 1, hu, by omega, by go_num, hlen, hlp, hlo, hmk', ho, hx0, hbel, hz⟩
        case measure => simp [intOf]; omega
      have hrow2 : wr.ownsRow base 96 2 (.slice so n sc) hu[k].1.pairs.length (pairCells hu[k].1.pairs) := by rw [hsv, ← hn] at hrow; rw [← hn]; exact hrow
      obtain ⟨g, rfl, hgb, d1, d2, df⟩ := owns_pairs_at hrow2 (j := j) (by omega)
      have df0 := df (j * 2)
      have df1 := df (j * 2 + 1)
      have hgo : hu[k].2.ownBlock = some g := by rw [hsv]; rfl
      have hgw : g < w.heap.size := (hlok g hgo).1
      have hgS := (hlok g hgo).2
      have ho' := ho.setPair hku hgo (j := j) (by omega) (mark + k) 0
      have hmk' := hmk.set (⟨hu[k].1.src, hu[k].1.pairs.set j ⟨mark + k, 0⟩⟩, hu[k].2)
      have hlen' : Hid ((hu.set k (⟨hu[k].1.src, hu[k].1.pairs.set j ⟨mark + k, 0⟩⟩, hu[k].2)).length = hv.length) := by show List.length _ = _; rw [List.length_set]; exact hlen.out
      have hlp' : Hid (∀ x ∈ hu.set k (⟨hu[k].1.src, hu[k].1.pairs.set j ⟨mark + k, 0⟩⟩, hu[k].2), x.1.pairs.length ≤ 1000) := by
        intro x hx
        rcases List.mem_or_eq_of_mem_set hx with hx | rfl
        · exact hlp.out x hx
        · show List.length (List.set _ _ _) ≤ 1000
          rw [List.length_set]; exact hpl
      have hlo' : Hid (∀ x ∈ hu.set k (⟨hu[k].1.src, hu[k].1.pairs.set j ⟨mark + k, 0⟩⟩, hu[k].2), ∀ g, x.2.ownBlock = some g → g < w.heap.size ∧ S g) := by
        intro x hx
        rcases List.mem_or_eq_of_mem_set hx with hx | rfl
        · exact hlo.out x hx
        · exact hlok
      have hq := hdat_get (hu.set k (⟨hu[k].1.src, hu[k].1.pairs.set j ⟨mark + k, 0⟩⟩, hu[k].2)) (i := k) (by rw [List.length_set]; exact hku)
      rw [List.getElem_set_self] at hq
      have hsk2 : Hid (hsrc (hdat (hu.set k (⟨hu[k].1.src, hu[k].1.pairs.set j ⟨mark + k, 0⟩⟩, hu[k].2))) k = mark + k) := by show hsrc _ _ = _; rw [hq.1]; exact hsk'.out
      have hpj2 : Hid (j + 1 ≤ (hpairs (hdat (hu.set k (⟨hu[k].1.src, hu[k].1.pairs.set j ⟨mark + k, 0⟩⟩, hu[k].2))) k).length ∧ ∀ i, i < j + 1 → preg (hpairs (hdat (hu.set k (⟨hu[k].1.src, hu[k].1.pairs.set j ⟨mark + k, 0⟩⟩, hu[k].2))) k) i = mark + k) := by
        show _ ∧ _
        rw [hq.2]
        refine ⟨by simp only [List.length_set]; omega, fun i hi => ?_⟩
        by_cases e : i = j
        · subst e
          simp [preg, List.getD, show i < hu[k].1.pairs.length by omega]
        · have := hpj'.out.2 i (by omega)
          simp only [preg, List.getD, List.getElem?_set_ne (fun h => e h.symm)] at this ⊢
          exact this
      have hx1 : ∀ u u', ((wr.setCell ⟨g, j * 2, none⟩ u).setCell ⟨g, j * 2 + 1, none⟩ u').cell? ⟨w.heap.size, 0, none⟩ = some (.slice (some ⟨b, 0, none⟩) hv.length cap) := fun u u' => cell_unset (by simp) (cell_unset (by simp) hx0)
      have hb1 := (hbel.setCell (p := ⟨g, j * 2, none⟩) (.inl hgS) (.int .i64 (mark + k))).setCell (p := ⟨g, j * 2 + 1, none⟩) (.inl hgS) (.int .i64 0)
      generalize hu.set k (⟨hu[k].1.src, hu[k].1.pairs.set j ⟨mark + k, 0⟩⟩, hu[k].2) = h2 at *
      clear hsv hn hpj hsk hpj' hsk' hmk HE HSV HN hrow hrow2 hq ho hlen hlp hlo
      go_wp2
      go_roundw
      case rel => exact ⟨j + 1, h2, by omega, by go_num, hlen', hlp', hlo', hmk', hsk2, hpj2, ho', hx1 _ _, hb1, by simpa using hz⟩
      case measure => simp [intOf]; omega

end Go.Proofs.Ytblhmeidbjigaaa

/- The law on hints. -/
set_option linter.unusedSimpArgs false
set_option linter.unusedVariables false
namespace Go.Proofs.Ytblhmeidbjigaaa
open Go.RowKit

theorem toList_self (a : ByteArray) : (a.toList == a.toList) = true := by simp

set_option maxRecDepth 100000 in
set_option maxHeartbeats 2000000 in
theorem hinted_any (u : Value) (h : List PingD) (w : World) (hr : RdHint w u h) (hn : h.length ≤ 4398046511104) (hn2 : ∀ k, k < h.length → (hpairs h k).length ≤ 8796093022208) :
    Calls Try.prog 10 #[.agg #[u]] w fun e w' => e = .returned (.bool true) ∧ Below w.heap.size w w' := by
  obtain ⟨uo, uc, e0, _, _⟩ := id hr
  subst e0
  have hr1 := hr.keep ((Below.refl w.heap.size w).alloc (Nat.le_refl _) (.cells #[.slice uo h.length uc] 31))
  go_enter Try.func10, Try.ntmps10
  go_wp2_with fail
  refine roomyHint_cps _ h _ hr1 hn hn2 _ ?_
  intro w1 hv L D hdt hlies hL hD hb1
  have hb1' : Below (w.heap.size + 1) (w.alloc (.cells #[.slice uo h.length uc] 31)) w1 := by simpa using hb1
  have hz1 := hb1'.size
  simp at hz1
  have hb01 := Below.under hb1'
  have x0 : w1.cell? ⟨w.heap.size, 0, none⟩ = some (.slice uo h.length uc) := (hb1'.cell (by simp)).trans (by simp)
  have hvl : hv.length = h.length := by rw [← hdt, hdat_length]
  have n2 : ∀ x ∈ hv, x.1.pairs.length ≤ 8796093022208 := by
    intro x hx
    obtain ⟨k, hk, rfl⟩ := List.getElem_of_mem hx
    have := hn2 k (by omega)
    rw [← hdt, (hdat_get hv hk).2] at this
    exact this
  have hLlt := hL.lt
  have HV : Hid (hv.length = h.length) := hvl
  have rg := rows_rd (cap := hv.length + 1) hlies hL (by omega) (fun x hx => by have := n2 x hx; omega)
  rw [hdt] at rg
  have HD : Hid (hdat hv = h) := hdt
  clear hb1 hvl hdt
  have hzl : w.heap.size < w1.heap.size := by omega
  -- EncodeHint
  have hc := tEncodeHint_any _ h (w1.alloc (.cells #[.slice (some ⟨L, 0, none⟩) hv.length (hv.length + 1)] 31)) (rg.keep ((Below.refl _ _).alloc (Nat.le_refl _) _))
  go_wp2_with fail
  refine hc.mono ?_
  clear hc
  rintro e w2 ⟨rfl, hb2⟩
  have hb2' : Below (w1.heap.size + 1) (w1.alloc (.cells #[.slice (some ⟨L, 0, none⟩) hv.length (hv.length + 1)] 31)) w2 := by simpa using hb2
  have hb12 := Below.under hb2'
  have hz2 := hb2'.size
  simp at hz2
  have y0 := cell_keep hb12 x0
  have y1 : w2.cell? ⟨w1.heap.size, 0, none⟩ = some (.slice (some ⟨L, 0, none⟩) hv.length (hv.length + 1)) := (hb2'.cell (by simp)).trans (by simp)
  have hb02 := hb01.trans (hb12.mono (by omega))
  have hu2 := hr.keep hb02
  have hu2' : RdHint w2 (.slice uo h.length uc) (hdat hv) := by rw [HD.out]; exact hu2
  have hw := wholeHint_any hv L D _ w2 (hlies.keep hb12) (hL.keep hb12) (hD.keep hb12) hu2' (by rw [HV.out]; exact hn) n2
  clear hb2 hb2'
  cases hg : goodHint h
  · simp only [Bool.false_eq_true, if_false]
    go_wp2_with fail
    refine hw.mono ?_
    clear hw
    rintro e w3 ⟨rfl, hb3⟩
    have z0 := cell_keep hb3 y0
    have hb03 := hb02.trans (hb3.mono (by omega))
    have hz3 := hb3.size
    go_wp2_with fail
    refine (rGoodHint_any _ h _ (hr.keep hb03)).mono ?_
    rintro e w4 ⟨rfl, hb4⟩
    have hb04 := hb03.trans (hb4.mono (by omega))
    clear hlies hL hD rg hu2 hu2'
    go_wp2
    go_ret
    exact ⟨by simp, hb04⟩
  · simp only [if_true]
    go_wp2_with fail
    refine hw.mono ?_
    clear hw
    rintro e w3 ⟨rfl, hb3⟩
    have z0 := cell_keep hb3 y0
    have hb03 := hb02.trans (hb3.mono (by omega))
    have hz3 := hb3.size
    go_wp2_with fail
    refine (rGoodHint_any _ h _ (hr.keep hb03)).mono ?_
    rintro e w4 ⟨rfl, hb4⟩
    have hb04 := hb03.trans (hb4.mono (by omega))
    have t0 := cell_keep hb4 z0
    have hz4 := hb4.size
    clear hlies hL hD rg hu2 hu2'
    go_wp2_with fail
    refine (rHintText_any _ h _ (hr.keep hb04) hg).mono ?_
    rintro e w5 ⟨rfl, hb5⟩
    have hb05 := hb04.trans (hb5.mono (by omega))
    have hs := toList_self (str (hintText h))
    go_wp2
    go_ret
    exact ⟨by simp, hb05⟩

end Go.Proofs.Ytblhmeidbjigaaa

/- The law on hints: reading. -/
set_option linter.unusedSimpArgs false
set_option linter.unusedVariables false
namespace Go.Proofs.Ytblhmeidbjigaaa
open Go.RowKit

theorem OwnHint.apartFrom {S : Nat → Prop} {w w' : World} {base : Nat} {v : Value} {hv : List (PingD × Value)} (h : OwnHint w base v hv) (hk : Keep S w w') (hS : ∀ g, S g → g < base) : OwnHint w' base v hv := by
  have key : ∀ (e : TypeId) (sz : Nat) (u : Value) (n : Nat) (xs : List Value), w.ownsRow base e sz u n xs → w'.ownsRow base e sz u n xs := by
    intro e sz u n xs hu
    refine owns_same hu fun g hg => hk.block g (hu.lt g hg).2 (fun hs => ?_)
    have := hS g hs
    have := (hu.lt g hg).1
    omega
  exact ⟨key _ _ _ _ _ h.row, fun x hx => key _ _ _ _ _ (h.each x hx), h.apart⟩

theorem OwnHint.apartFrom' {w w' : World} {base : Nat} {v : Value} {hv : List (PingD × Value)} (h : OwnHint w base v hv) (hb : Below w.heap.size w w') : OwnHint w' base v hv := h.below hb (Nat.le_refl _)

/-- The blocks of a hint. -/
def hblk (v : Value) (hv : List (PingD × Value)) (g : Nat) : Prop := v.ownBlock = some g ∨ ∃ x ∈ hv, x.2.ownBlock = some g

theorem hblk_lt {w : World} {base : Nat} {v : Value} {hv : List (PingD × Value)} (h : OwnHint w base v hv) : ∀ g, hblk v hv g → base ≤ g ∧ g < w.heap.size := by
  rintro g (hg | ⟨x, hx, hg⟩)
  · exact h.row.lt g hg
  · exact (h.each x hx).lt g hg

theorem good_small {hv : List (PingD × Value)} (hg : goodHint (hdat hv) = true) : hv.length ≤ 1000 ∧ ∀ x ∈ hv, x.1.pairs.length ≤ 1000 := by
  have h1 := goodHint_len hg
  rw [hdat_length] at h1
  refine ⟨by omega, fun x hx => ?_⟩
  have := goodHint_ping hg x.1 (List.mem_map.2 ⟨x, hx, rfl⟩)
  simp [goodPing] at this
  omega

set_option maxRecDepth 100000 in
set_option maxHeartbeats 4000000 in
theorem unhinted_any (s : ByteArray) (k : Int) (w : World) (hs : s.size ≤ maxLen) (hk : 0 ≤ k ∧ k ≤ 4611686018427387) :
    Calls Try.prog 11 #[.string s, .int .i64 k] w fun e w' => (∃ v hv, e = .returned (.tuple #[.agg #[v], .bool true]) ∧ OwnHint w' w.heap.size v hv) ∧ Below w.heap.size w w' := by
  obtain ⟨Post, hPost⟩ : ∃ Post : Ending → World → Prop, Post = fun e w' => (∃ v hv, e = .returned (.tuple #[.agg #[v], .bool true]) ∧ OwnHint w' w.heap.size v hv) ∧ Below w.heap.size w w' := ⟨_, rfl⟩
  rw [← hPost]
  have HP : Hid (∀ v hv w', OwnHint w' w.heap.size v hv → Below w.heap.size w w' → Post (.returned (.tuple #[.agg #[v], .bool true])) w') := by
    intro v hv w' h1 h2
    rw [hPost]
    exact ⟨⟨v, hv, rfl, h1⟩, h2⟩
  clear hPost
  have hc := tDecodeHint_any s (w.alloc (.cells #[.slice none 0 0] 31)) hs
  go_enter Try.func11, Try.ntmps11
  go_wp2_with fail
  refine hc.mono ?_
  clear hc
  rintro e w1 ⟨hor, hb1⟩
  have hb1' : Below (w.heap.size + 1) (w.alloc (.cells #[.slice none 0 0] 31)) w1 := by simpa using hb1
  have hz1 := hb1'.size
  simp at hz1
  have r0 : w1.cell? ⟨w.heap.size, 0, none⟩ = some (.slice none 0 0) := (hb1'.cell (by simp)).trans (by simp)
  have rf : w1.frozen? ⟨w.heap.size, 0, none⟩ = false := (hb1'.frozen (by simp)).trans (by simp)
  have hb01 := Below.under hb1'
  have hzl : w.heap.size < w1.heap.size := by omega
  clear hb1
  rcases hor with ⟨v1, hv1, rfl, own1, g1, ht1⟩ | ⟨hno1, rfl⟩
  · obtain ⟨a1, c1, rfl⟩ := owns_slice own1.row
    have own1 : OwnHint w1 (w.heap.size + 1) (.slice a1 hv1.length c1) hv1 := by simpa using own1
    have good1 := good_small g1
    have hc := rDecodeHint_any s (w1.alloc (.cells #[.slice a1 hv1.length c1] 31)) hs
    go_wp2_with fail
    refine hc.mono ?_
    clear hc
    rintro e w2 ⟨hor, hb2⟩
    have hb2' : Below (w1.heap.size + 1) (w1.alloc (.cells #[.slice a1 hv1.length c1] 31)) w2 := by simpa using hb2
    clear hb2
    rcases hor with ⟨v2, hv2, rfl, own2, g2, ht2⟩ | ⟨hno2, rfl⟩
    case inr => exact absurd ht1 (hno2 _ g1)
    obtain ⟨a2, c2, rfl⟩ := owns_slice own2.row
    have own2 : OwnHint w2 (w1.heap.size + 1) (.slice a2 hv2.length c2) hv2 := by simpa using own2
    have hsame : hdat hv1 = hdat hv2 := hint_one g1 g2 (ht1.trans ht2.symm)
    clear ht1 ht2 g1 g2
    have hz2 := hb2'.size
    simp at hz2
    have x1 : w2.cell? ⟨w1.heap.size, 0, none⟩ = some (.slice a1 hv1.length c1) := (hb2'.cell (by simp)).trans (by simp)
    have hb12 := Below.under hb2'
    have own1' := own1.apartFrom' hb12
    have hsm1 := good1
    have rr0 := cell_keep hb12 r0
    have rrf := (hb12.frozen (p := ⟨w.heap.size, 0, none⟩) hzl).trans rf
    have hzl2 : w1.heap.size < w2.heap.size := by omega
    have hzl3 : w.heap.size < w2.heap.size := by omega
    have rd1 := (own1'.alloc (.cells #[(.slice a2 hv2.length c2)] 31)).rd
    have rd2 := (own2.alloc (.cells #[(.slice a2 hv2.length c2)] 31)).rd
    rw [← hsame] at rd2
    go_wp2_with fail
    refine (sameHint_any _ _ _ _ rd1 rd2).mono ?_
    rintro e w3 ⟨rfl, hb3⟩
    have hb3' : Below (w2.heap.size + 1) (w2.alloc (.cells #[(.slice a2 hv2.length c2)] 31)) w3 := by simpa using hb3
    clear hb3 rd1 rd2
    have hb23 := Below.under hb3'
    have hz3 := hb3'.size
    simp at hz3
    have y1 := cell_keep hb23 x1
    have y2 : w3.cell? ⟨w2.heap.size, 0, none⟩ = some (.slice a2 hv2.length c2) := (hb3'.cell (by simp)).trans (by simp)
    have y0 := cell_keep hb23 rr0
    have yf := (hb23.frozen (p := ⟨w.heap.size, 0, none⟩) hzl3).trans rrf
    have o31 := own1'.apartFrom' hb23
    have o32 := own2.apartFrom' hb23
    have hS : ∀ g, hblk (.slice a1 hv1.length c1) hv1 g → w.heap.size + 1 ≤ g ∧ g < w1.heap.size := fun g hg => by
      have := hblk_lt own1 g hg
      exact this
    have hSv : ∀ g, (Value.slice a1 hv1.length c1).ownBlock = some g → hblk (.slice a1 hv1.length c1) hv1 g := fun g hg => .inl hg
    have hSx : ∀ x ∈ hv1, ∀ g, x.2.ownBlock = some g → hblk (.slice a1 hv1.length c1) hv1 g := fun x hx g hg => .inr ⟨x, hx, hg⟩
    have hn1 : ¬ hblk (.slice a1 hv1.length c1) hv1 w1.heap.size := fun h => by have := hS _ h; omega
    have hn2 : ¬ hblk (.slice a1 hv1.length c1) hv1 w2.heap.size := fun h => by have := hS _ h; omega
    have hn0 : ¬ hblk (.slice a1 hv1.length c1) hv1 w.heap.size := fun h => by have := hS _ h; omega
    have hbh := behindHint_any (.slice a1 hv1.length c1) hv1 w3 (w.heap.size + 1) o31 (by omega) hsm1.1 hsm1.2 (hblk (.slice a1 hv1.length c1) hv1) hSv hSx
    go_wp2_with fail
    refine hbh.mono ?_
    clear hbh
    rintro e w4 ⟨rfl, o41, hk4⟩
    have u1 := hk4.cell hn1 y1
    have u2 := hk4.cell hn2 y2
    have u0 := hk4.cell hn0 y0
    have uf : w4.frozen? ⟨w.heap.size, 0, none⟩ = false := (World.frozen?_of_block (w := w3) (hk4.block w.heap.size (by omega) hn0)).trans yf
    have o42 := o32.apartFrom hk4 (fun g hg => by have := hS g hg; omega)
    have hz4 := hk4.size
    have rd1 := o41.rd
    have rd2 := o42.rd
    rw [← hsame] at rd2
    go_wp2_with fail
    refine (sameHint_any _ _ _ _ rd1 rd2).mono ?_
    rintro e w5 ⟨rfl, hb5⟩
    have v1 := cell_keep hb5 u1
    have v0 := cell_keep hb5 u0
    have vf := (hb5.frozen (p := ⟨w.heap.size, 0, none⟩) (by show w.heap.size < w4.heap.size; omega)).trans uf
    have o51 := o41.apartFrom' hb5
    have hz5 := hb5.size
    have hoh := ownHint_any (.slice a1 hv1.length c1) hv1 w5 (w.heap.size + 1) (77 + 100 * k) o51 (by omega) hsm1.1 hsm1.2 (by omega) (hblk (.slice a1 hv1.length c1) hv1) hSv hSx
    clear rd1 rd2
    go_wp2_with fail
    refine hoh.mono ?_
    clear hoh
    rintro e w6 ⟨rfl, ⟨hv6, o61⟩, hk6⟩
    have t1 := hk6.cell hn1 v1
    have t0 := hk6.cell hn0 v0
    have tf : w6.frozen? ⟨w.heap.size, 0, none⟩ = false := (World.frozen?_of_block (w := w5) (hk6.block w.heap.size (by omega) hn0)).trans vf
    have B3 := hb01.trans (hb12.mono (by omega)) |>.trans (hb23.mono (by omega))
    have B4 := B3.trans ((hk4.toBelow (B := w.heap.size) (by omega) (fun g hg => by have := hS g hg; omega)))
    have B6 := (B4.trans (hb5.mono (by omega))).trans ((hk6.toBelow (B := w.heap.size) (by omega) (fun g hg => by have := hS g hg; omega)))
    have hfin := HP.out (.slice a1 hv1.length c1) hv6 (w6.setCell ⟨w.heap.size, 0, none⟩ (.slice a1 hv1.length c1)) ((o61.set (by simp) _).base (by omega)) (B6.setCell (by simp) _)
    clear hk6 hk4 o41 o42 o51 o61 o31 o32 own1 own2 own1' B3 B4 B6 HP hSv hSx
    go_wp2
    exact bodyPost_ret (v := .tuple #[.agg #[(.slice a1 hv1.length c1)], .bool true]) (by simp [results, Try.results11, go_sem, t0]) rfl hfin
  · have own1 : OwnHint w1 (w.heap.size + 1) (.slice none 0 0) [] := ownHint_nil _ _
    have good1 : ([] : List (PingD × Value)).length ≤ 1000 ∧ ∀ x ∈ ([] : List (PingD × Value)), x.1.pairs.length ≤ 1000 := ⟨by simp, fun x hx => by cases hx⟩
    have hc := rDecodeHint_any s (w1.alloc (.cells #[.slice none 0 0] 31)) hs
    go_wp2_with fail
    refine hc.mono ?_
    clear hc
    rintro e w2 ⟨hor, hb2⟩
    have hb2' : Below (w1.heap.size + 1) (w1.alloc (.cells #[.slice none 0 0] 31)) w2 := by simpa using hb2
    clear hb2
    rcases hor with ⟨v2, hv2, rfl, own2, g2, ht2⟩ | ⟨hno2, rfl⟩
    case inl => exact absurd ht2 (hno1 _ g2)
    have own2 : OwnHint w2 (w1.heap.size + 1) (.slice none 0 0) [] := ownHint_nil _ _
    have hsame : hdat [] = hdat [] := rfl
    clear hno1 hno2
    have hz2 := hb2'.size
    simp at hz2
    have x1 : w2.cell? ⟨w1.heap.size, 0, none⟩ = some (.slice none 0 0) := (hb2'.cell (by simp)).trans (by simp)
    have hb12 := Below.under hb2'
    have own1' := own1.apartFrom' hb12
    have hsm1 := good1
    have rr0 := cell_keep hb12 r0
    have rrf := (hb12.frozen (p := ⟨w.heap.size, 0, none⟩) hzl).trans rf
    have hzl2 : w1.heap.size < w2.heap.size := by omega
    have hzl3 : w.heap.size < w2.heap.size := by omega
    have rd1 := (own1'.alloc (.cells #[(.slice none 0 0)] 31)).rd
    have rd2 := (own2.alloc (.cells #[(.slice none 0 0)] 31)).rd
    go_wp2_with fail
    refine (sameHint_any _ _ _ _ rd1 rd2).mono ?_
    rintro e w3 ⟨rfl, hb3⟩
    have hb3' : Below (w2.heap.size + 1) (w2.alloc (.cells #[(.slice none 0 0)] 31)) w3 := by simpa using hb3
    clear hb3 rd1 rd2
    have hb23 := Below.under hb3'
    have hz3 := hb3'.size
    simp at hz3
    have y1 := cell_keep hb23 x1
    have y2 : w3.cell? ⟨w2.heap.size, 0, none⟩ = some (.slice none 0 0) := (hb3'.cell (by simp)).trans (by simp)
    have y0 := cell_keep hb23 rr0
    have yf := (hb23.frozen (p := ⟨w.heap.size, 0, none⟩) hzl3).trans rrf
    have o31 := own1'.apartFrom' hb23
    have o32 := own2.apartFrom' hb23
    have hS : ∀ g, hblk (.slice none 0 0) [] g → w.heap.size + 1 ≤ g ∧ g < w1.heap.size := fun g hg => by
      have := hblk_lt own1 g hg
      exact this
    have hSv : ∀ g, (Value.slice none 0 0).ownBlock = some g → hblk (.slice none 0 0) [] g := fun g hg => .inl hg
    have hSx : ∀ x ∈ ([] : List (PingD × Value)), ∀ g, x.2.ownBlock = some g → hblk (.slice none 0 0) [] g := fun x hx g hg => .inr ⟨x, hx, hg⟩
    have hn1 : ¬ hblk (.slice none 0 0) [] w1.heap.size := fun h => by have := hS _ h; omega
    have hn2 : ¬ hblk (.slice none 0 0) [] w2.heap.size := fun h => by have := hS _ h; omega
    have hn0 : ¬ hblk (.slice none 0 0) [] w.heap.size := fun h => by have := hS _ h; omega
    have hbh := behindHint_any (.slice none 0 0) [] w3 (w.heap.size + 1) o31 (by omega) hsm1.1 hsm1.2 (hblk (.slice none 0 0) []) hSv hSx
    go_wp2_with fail
    refine hbh.mono ?_
    clear hbh
    rintro e w4 ⟨rfl, o41, hk4⟩
    have u1 := hk4.cell hn1 y1
    have u2 := hk4.cell hn2 y2
    have u0 := hk4.cell hn0 y0
    have uf : w4.frozen? ⟨w.heap.size, 0, none⟩ = false := (World.frozen?_of_block (w := w3) (hk4.block w.heap.size (by omega) hn0)).trans yf
    have o42 := o32.apartFrom hk4 (fun g hg => by have := hS g hg; omega)
    have hz4 := hk4.size
    have rd1 := o41.rd
    have rd2 := o42.rd
    go_wp2_with fail
    refine (sameHint_any _ _ _ _ rd1 rd2).mono ?_
    rintro e w5 ⟨rfl, hb5⟩
    have v1 := cell_keep hb5 u1
    have v0 := cell_keep hb5 u0
    have vf := (hb5.frozen (p := ⟨w.heap.size, 0, none⟩) (by show w.heap.size < w4.heap.size; omega)).trans uf
    have o51 := o41.apartFrom' hb5
    have hz5 := hb5.size
    have hoh := ownHint_any (.slice none 0 0) [] w5 (w.heap.size + 1) (77 + 100 * k) o51 (by omega) hsm1.1 hsm1.2 (by omega) (hblk (.slice none 0 0) []) hSv hSx
    clear rd1 rd2
    go_wp2_with fail
    refine hoh.mono ?_
    clear hoh
    rintro e w6 ⟨rfl, ⟨hv6, o61⟩, hk6⟩
    have t1 := hk6.cell hn1 v1
    have t0 := hk6.cell hn0 v0
    have tf : w6.frozen? ⟨w.heap.size, 0, none⟩ = false := (World.frozen?_of_block (w := w5) (hk6.block w.heap.size (by omega) hn0)).trans vf
    have B3 := hb01.trans (hb12.mono (by omega)) |>.trans (hb23.mono (by omega))
    have B4 := B3.trans ((hk4.toBelow (B := w.heap.size) (by omega) (fun g hg => by have := hS g hg; omega)))
    have B6 := (B4.trans (hb5.mono (by omega))).trans ((hk6.toBelow (B := w.heap.size) (by omega) (fun g hg => by have := hS g hg; omega)))
    have hfin := HP.out (.slice none 0 0) hv6 (w6.setCell ⟨w.heap.size, 0, none⟩ (.slice none 0 0)) ((o61.set (by simp) _).base (by omega)) (B6.setCell (by simp) _)
    clear hk6 hk4 o41 o42 o51 o61 o31 o32 own1 own2 own1' B3 B4 B6 HP hSv hSx
    go_wp2
    exact bodyPost_ret (v := .tuple #[.agg #[(.slice none 0 0)], .bool true]) (by simp [results, Try.results11, go_sem, t0]) rfl hfin

end Go.Proofs.Ytblhmeidbjigaaa

/- A hint that came in, read. -/
set_option linter.unusedSimpArgs false
set_option linter.unusedVariables false
namespace Go.Proofs.Ytblhmeidbjigaaa
open Go.RowKit Go.ChangeShapes Go.WideShapes Go.ChangeAt Go.Deep

theorem Try.cellsInt : Try.prog.cellsOf 3 = 1 := by kernel_rfl
theorem Try.cellsPair : Try.prog.cellsOf 96 = 2 := by kernel_rfl
theorem Try.cellsPing : Try.prog.cellsOf 94 = 2 := by kernel_rfl
theorem Try.cellsHint : Try.prog.cellsOf 31 = 1 := by kernel_rfl
theorem Try.cellsPairs : Try.prog.cellsOf 92 = 1 := by kernel_rfl
theorem Try.cellsPings : Try.prog.cellsOf 29 = 1 := by kernel_rfl
theorem Try.bytesPair : Try.prog.bytesOf 96 = 16 := by kernel_rfl
theorem Try.bytesPing : Try.prog.bytesOf 94 = 32 := by kernel_rfl

section
variable {H : Type} {enc : TypeId × Value → H} {w : World} {spare : Nat → Bool} {held : Bool}

theorem cells_get {base n : Nat} {a : Addr} {cs : List Value} (h : w.cells? base a n = some cs) : cs.length = n ∧ ∀ i (hi : i < cs.length), w.cell? (a.add i) = some cs[i] := by
  obtain ⟨_, hl, hc⟩ := World.cells?_some h
  refine ⟨hl, fun i hi => ?_⟩
  have := hc i (by omega)
  rw [List.getElem?_eq_getElem hi] at this
  exact this

/-- The address of a slice's first cell, where there is one. -/
theorem addr_lit {a : Addr} {v : Value} (h : w.cell? (a.add 0) = some v) : a = ⟨a.block, a.off, none⟩ := by
  have e : a.add 0 = a := by simp [Addr.add]
  rw [e] at h
  have hs := World.cell?_spot h
  cases a
  simp at hs
  rw [hs]

theorem open_pair {fuel : Nat} {cs : List Value} {x : DataW H × List MemPlace} (h : DataW.trod enc Try.prog w 0 spare held fuel 96 cs = some x) : ∃ a b : Int, cs = [.int .i64 a, .int .i64 b] := by
  obtain ⟨y0, y1, n, _, hl, h0, h1⟩ := trod_struct2 Try.underlying96 h
  rw [Try.cellsPair] at hl
  simp only [Try.cellsInt] at h0 h1
  match cs, hl with
  | [c0, c1], _ =>
    obtain ⟨a, e0, _, _⟩ := DataW.trod_int Try.underlying3 h0
    obtain ⟨b, e1, _, _⟩ := DataW.trod_int Try.underlying3 h1
    simp at e0 e1
    exact ⟨a, b, by rw [e0, e1]⟩

theorem open_pairs {fuel : Nat} {v : Value} {x : DataW H × List MemPlace} (h : DataW.trod enc Try.prog w 0 spare held fuel 92 [v] = some x) (hs : ∀ n ∈ x.1.weights Try.prog 92, n ≤ reachBytes) :
    ∃ ps, RdPairs w v ps ∧ ps.length ≤ 8796093022208 := by
  rcases open_slice Try.underlying92 h with ⟨e, _⟩ | ⟨a, len, cap, m, n, D, Pl, e, _, hlc, hcm, hm, hx, hel⟩
  · simp at e
    subst e
    exact ⟨[], ⟨none, 0, rfl, by simp, fun i hi => by simp at hi⟩, by simp⟩
  · simp at e
    subst e
    have hlm : len ≤ m := by rw [hm]; split <;> omega
    have key : ∀ i, i < len → ∃ p : PairD, w.cell? (a.add (i * 2)) = some (.int .i64 p.reg) ∧ w.cell? (a.add (i * 2 + 1)) = some (.int .i64 p.place) := by
      intro i hi
      obtain ⟨cs', hc, ht⟩ := hel i (by omega)
      rw [Try.cellsPair] at hc
      obtain ⟨x0, x1, rfl⟩ := open_pair ht
      have := (cells_get hc).2
      refine ⟨⟨x0, x1⟩, ?_, ?_⟩
      · have := this 0 (by simp); simpa [add_add] using this
      · have := this 1 (by simp); simpa [add_add] using this
    obtain ⟨f, hf⟩ := @choose_lt PairD ⟨pz⟩ len (fun i p => w.cell? (a.add (i * 2)) = some (.int .i64 p.reg) ∧ w.cell? (a.add (i * 2 + 1)) = some (.int .i64 p.place)) key
    have hw : len * 16 ≤ reachBytes := by
      have := hs ((len + (m - len)) * 16) (by rw [hx]; simp [DataW.weights, Try.underlying92, Try.bytesPair])
      omega
    have hlen : len ≤ 8796093022208 := by unfold reachBytes at hw; omega
    refine ⟨(List.range len).map f, ⟨some a, cap, by simp, by simp; omega, fun i hi => ?_⟩, by simpa using hlen⟩
    have hi' : i < len := by simpa using hi
    obtain ⟨c1, c2⟩ := hf i hi'
    have ha := addr_lit (by simpa using (hf 0 (by omega)).1)
    rw [ha, Addr.add_lit] at c1 c2
    refine ⟨a.block, a.off, by rw [← ha], ?_, ?_⟩
    · rw [c1]; simp [preg, hi']
    · rw [Nat.add_assoc, c2]; simp [pplace, hi']

theorem open_ping {fuel : Nat} {cs : List Value} {x : DataW H × List MemPlace} (h : DataW.trod enc Try.prog w 0 spare held fuel 94 cs = some x) (hs : ∀ n ∈ x.1.weights Try.prog 94, n ≤ reachBytes) :
    ∃ (a : Int) (sv : Value) (ps : List PairD), cs = [.int .i64 a, sv] ∧ RdPairs w sv ps ∧ ps.length ≤ 8796093022208 := by
  obtain ⟨y0, y1, n, hx, hl, h0, h1⟩ := trod_struct2 Try.underlying94 h
  rw [Try.cellsPing] at hl
  simp only [Try.cellsInt, Try.cellsPairs] at h0 h1
  match cs, hl with
  | [c0, c1], _ =>
    obtain ⟨a, e0, _, _⟩ := DataW.trod_int Try.underlying3 h0
    simp at e0
    obtain ⟨ps, hp, hn⟩ := open_pairs (v := c1) (x := y1) (by simpa using h1) (fun n hn => hs n (by rw [hx]; simp [DataW.weights, DataW.weightsEach, Try.underlying94]; exact .inr hn))
    exact ⟨a, c1, ps, by rw [e0], hp, hn⟩

theorem weightsAll_mem {P : Program} {e : TypeId} {l : List (DataW H)} {d : DataW H} (hd : d ∈ l) {n : Nat} (hn : n ∈ d.weights P e) : n ∈ DataW.weightsAll P e l := by
  induction l with
  | nil => cases hd
  | cons x r ih =>
    rw [DataW.weightsAll, List.mem_append]
    rcases List.mem_cons.1 hd with rfl | hd
    · exact .inl hn
    · exact .inr (ih hd)

theorem open_hint {fuel : Nat} {v : Value} {x : DataW H × List MemPlace} (h : DataW.trod enc Try.prog w 0 spare held fuel 29 [v] = some x) (hs : ∀ n ∈ x.1.weights Try.prog 29, n ≤ reachBytes) :
    ∃ g, RdHint w v g ∧ g.length ≤ 4398046511104 ∧ ∀ k, k < g.length → (hpairs g k).length ≤ 8796093022208 := by
  rcases open_slice Try.underlying29 h with ⟨e, _⟩ | ⟨a, len, cap, m, n, D, Pl, e, _, hlc, hcm, hm, hx, hel⟩
  · simp at e
    subst e
    exact ⟨[], ⟨none, 0, rfl, by simp, fun i hi => by simp at hi⟩, by simp, fun i hi => by simp at hi⟩
  · simp at e
    subst e
    have hlm : len ≤ m := by rw [hm]; split <;> omega
    have key : ∀ i, i < len → ∃ p : PingD, w.cell? (a.add (i * 2)) = some (.int .i64 p.src) ∧ (∃ sv, w.cell? (a.add (i * 2 + 1)) = some sv ∧ RdPairs w sv p.pairs) ∧ p.pairs.length ≤ 8796093022208 := by
      intro i hi
      obtain ⟨cs', hc, ht⟩ := hel i (by omega)
      rw [Try.cellsPing] at hc
      obtain ⟨x0, sv, ps, rfl, hp, hn⟩ := open_ping ht (fun n hn => hs n (by
        rw [hx]
        simp only [DataW.weights, Try.underlying29]
        refine List.mem_cons.2 (.inr (List.mem_append.2 (.inl ?_)))
        exact weightsAll_mem (List.mem_map.2 ⟨i, by simpa using hi, rfl⟩) hn))
      have := (cells_get hc).2
      refine ⟨⟨x0, ps⟩, ?_, ⟨sv, ?_, hp⟩, hn⟩
      · have := this 0 (by simp); simpa [add_add] using this
      · have := this 1 (by simp); simpa [add_add] using this
    obtain ⟨f, hf⟩ := @choose_lt PingD ⟨hz⟩ len _ key
    have hw : len * 32 ≤ reachBytes := by
      have := hs ((len + (m - len)) * 32) (by rw [hx]; simp [DataW.weights, Try.underlying29, Try.bytesPing])
      omega
    have hlen : len ≤ 4398046511104 := by unfold reachBytes at hw; omega
    refine ⟨(List.range len).map f, ⟨some a, cap, by simp, by simp; omega, fun i hi => ?_⟩, by simpa using hlen, fun k hk => ?_⟩
    · have hi' : i < len := by simpa using hi
      obtain ⟨c1, ⟨sv, c2, c3⟩, _⟩ := hf i hi'
      have ha := addr_lit (by simpa using (hf 0 (by omega)).1)
      rw [ha, Addr.add_lit] at c1 c2
      refine ⟨a.block, a.off, sv, by rw [← ha], ?_, ?_, ?_⟩
      · rw [c1]; simp [hsrc, hi']
      · rw [Nat.add_assoc, c2]
      · have : hpairs ((List.range len).map f) i = (f i).pairs := by simp [hpairs, hi']
        rw [this]; exact c3
    · have hk' : k < len := by simpa using hk
      have : hpairs ((List.range len).map f) k = (f k).pairs := by simp [hpairs, hk']
      rw [this]; exact (hf k hk').2.2

theorem one_cell (cs : Array Value) (h : cs.size = 1) : ∃ c, cs = #[c] := by
  rcases cs with ⟨l⟩
  match l, h with
  | [c], _ => exact ⟨c, rfl⟩

set_option maxRecDepth 100000 in
theorem open_hint_arg {v : Value} {d : DataW H} {p : List MemPlace} {r : Reach} {b0 : Nat} (hv : Value.okWide Try.prog w r b0 31 v) (h : DataW.Trod enc Try.prog w 0 spare held 31 v d p) (hs : ∀ n ∈ d.weights Try.prog 31, n ≤ reachBytes) :
    ∃ u g, v = .agg #[u] ∧ RdHint w u g ∧ g.length ≤ 4398046511104 ∧ ∀ k, k < g.length → (hpairs g k).length ≤ 8796093022208 := by
  obtain ⟨cs, rfl, hcs⟩ := okWide_struct Try.underlying31 hv
  rw [Try.cellsHint] at hcs
  obtain ⟨c0, rfl⟩ := one_cell cs hcs
  obtain ⟨fuel, hf⟩ := h
  obtain ⟨y0, n, hx, _, ht⟩ := trod_struct1 Try.underlying31 hf
  simp only [Try.cellsPings] at ht
  simp only [Prod.mk.injEq] at hx
  obtain ⟨g, h1, h2, h3⟩ := open_hint (v := c0) (x := y0) (by simpa [Value.cells] using ht) (fun n hn => hs n (by
    rw [hx.1]
    simp only [DataW.weights, Try.underlying31, DataW.weightsEach, List.map_cons, List.map_nil, List.mem_append]
    exact .inl hn))
  exact ⟨c0, g, rfl, h1, h2, h3⟩

end

end Go.Proofs.Ytblhmeidbjigaaa
