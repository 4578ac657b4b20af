/- The reference leaves a block. -/
import Derived.Test.YtblhmeidbjigaabGreatDoorRows
import Derived.WalkKit
import Derived.WalkSpells
import Derived.WalkLawsBesides
import Derived.Laws.BytesArg
import Derived.Deep.QuietTactic
import Derived.BigQuiet
import Derived.Deep.RegionHeld3
import Derived.Maps.AppendAt
import Derived.StillTailTactics
import Derived.Test.YtblhmeidbjigaabGreatDoorAProgToRCalAll

set_option linter.unusedSimpArgs false
set_option linter.unusedVariables false
namespace Go.Proofs.YtblhmeidbjigaabGreatDoor
open Go.RowKit

theorem refs_at {K : Nat → Prop} {t r : Int} {w : World} {M : Nat} {s : RunD} {rv cv sv lv : Value} (hrow : Row w M 161 [.int .i64 t, rv, cv, sv, lv, .int .i64 s.trap, .int .i64 r]) (hbu : Bunch K w rv cv sv lv s) (hK : ¬ K M) (u : Int) :
    RefS K u r (w.setCell ⟨M, 0, none⟩ (.int .i64 u)) M s ∧ Keep (fun g => ¬ K g) w (w.setCell ⟨M, 0, none⟩ (.int .i64 u)) :=
  ⟨⟨rv, cv, sv, lv, hrow.set 0 (.int .i64 u), hbu.far hrow (by decide) 0 _, hK⟩, (Keep.refl _ _).setCell (.inl hK) _⟩

theorem refs_res {K : Nat → Prop} {t r : Int} {w : World} {M : Nat} {s : RunD} {rv cv sv lv : Value} (hrow : Row w M 161 [.int .i64 t, rv, cv, sv, lv, .int .i64 s.trap, .int .i64 r]) (hbu : Bunch K w rv cv sv lv s) (hK : ¬ K M) (u : Int) :
    RefS K t u (w.setCell ⟨M, 6, none⟩ (.int .i64 u)) M s ∧ Keep (fun g => ¬ K g) w (w.setCell ⟨M, 6, none⟩ (.int .i64 u)) :=
  ⟨⟨rv, cv, sv, lv, hrow.set 6 (.int .i64 u), hbu.far hrow (by decide) 6 _, hK⟩, (Keep.refl _ _).setCell (.inl hK) _⟩

set_option maxRecDepth 100000 in
set_option maxHeartbeats 2000000 in
theorem leaves_cps (K : Nat → Prop) (t r : Int) (M : Nat) (s : RunD) (e : EndD) (regs nb : Int) (w : World) (h : RefS K t r w M s) (hl : s.leak.length ≤ 99999) (hz : (s.regs.length : Int) = regs) (hg : endGood regs nb e = true) (Post : Ending → World → Prop)
    (hp3 : e.kind = 3 → ∀ w', RefS K t (rg s.regs e.r) w' M (s.die 1) → Keep (fun g => ¬ K g) w w' → Post (.returned (.tuple #[])) w')
    (hpg : e.kind ≠ 3 → ∀ w', RefS K (goesTo s e) r w' M (goesOn s e) → Keep (fun g => ¬ K g) w w' → Post (.returned (.tuple #[])) w') :
    Calls Tryz.prog 146 #[.pointer (some ⟨M, 0, none⟩), .agg #[.int .i64 e.kind, .int .i64 e.r, .int .i64 e.x, .int .i64 e.y]] w Post := by
  obtain ⟨i0, ii, iz0, iz1, iz2⟩ := info_parts Tryz.infoInt
  obtain ⟨k, q, x, y⟩ := e
  simp only at hp3 hpg ⊢
  have W0 := RWith.start h 40 [.int .i64 k, .int .i64 q, .int .i64 x, .int .i64 y]
  have o0 := W0.row.cell (i := 0) rfl
  clear h
  by_cases h3 : k = 3
  · subst h3
    have hp := hp3 rfl
    clear hp3 hpg
    simp [endGood, below] at hg
    obtain ⟨⟨⟨hr0, hr1⟩, hx0⟩, hy0⟩ := hg
    subst hx0 hy0
    obtain ⟨q, rfl⟩ := Int.eq_ofNat_of_zero_le hr0
    obtain ⟨rv, cv, sv, lv, hrow, hbu, hK⟩ := id W0.mach
    have m5 := hrow.cell (i := 5) rfl
    have f5 := hrow.frozen 5
    obtain ⟨p1, p2⟩ := refs_die hrow hbu hK 1
    have W1 := W0.next p1 p2
    clear hrow hbu W0 p1 p2
    have Wd := W1.below ((Below.refl _ _).drew)
    obtain ⟨rv, cv, sv, lv, hrow, hbu, hK⟩ := id Wd.mach
    obtain ⟨rb, rc, hrv, hrb, hrc, hrf⟩ := hbu.regs.at (i := q) (by show q < s.regs.length; omega)
    subst hrv
    have hn : (s.die 1).regs.getD q 0 = rg s.regs q := by simp [rg, RunD.die]
    rw [hn] at hrc
    have m1 := hrow.cell (i := 1) rfl
    have m6 := hrow.cell (i := 6) rfl
    have f6 := hrow.frozen 6
    have o1 := Wd.row.cell (i := 1) rfl
    have hbi : (0 : Int) ≤ (q : Int) := by omega
    have hbj : (q : Int) < ((s.die 1).regs.length : Int) := by show (q : Int) < (s.regs.length : Int); omega
    obtain ⟨p1, p2⟩ := refs_res hrow hbu hK (rg s.regs q)
    have W2 := Wd.next' p1 p2
    have HF : Hid (Post (.returned (.tuple #[])) (((w.alloc (.cells #[.int .i64 3, .int .i64 q, .int .i64 0, .int .i64 0] 40)).setCell ⟨M, 5, none⟩ (.int .i64 1)).drew.setCell ⟨M, 6, none⟩ (.int .i64 (rg s.regs q)))) := hp _ W2.done W2.keep
    clear hp W1 W2 Wd p1 p2 hrow hbu hn
    generalize rg s.regs q = z at *
    go_enter Tryz.func146, Tryz.ntmps146
    go_wp2
    refine wp_tail 11 (by kernel_rfl) (by kernel_rfl) ?_
    simp only [List.take_succ_cons, List.take_zero, List.drop_succ_cons, List.drop_zero]
    repeat still_step
    refine wpStill_nil ?_
    go_wp2
    go_end0
    exact HF.out
  have hp := hpg h3
  clear hp3 hpg
  by_cases h1 : k = 1
  · subst h1
    obtain ⟨rv, cv, sv, lv, hrow, hbu, hK⟩ := id W0.mach
    have m0 := hrow.cell (i := 0) rfl
    have f0 := hrow.frozen 0
    have o2 := W0.row.cell (i := 2) rfl
    obtain ⟨p1, p2⟩ := refs_at hrow hbu hK x
    have W1 := W0.next' p1 p2
    have HF : Hid (Post (.returned (.tuple #[])) ((w.alloc (.cells #[.int .i64 1, .int .i64 q, .int .i64 x, .int .i64 y] 40)).setCell ⟨M, 0, none⟩ (.int .i64 x))) := by
      have eT : goesTo s ⟨1, q, x, y⟩ = x := by simp [goesTo]
      have eO : goesOn s ⟨1, q, x, y⟩ = s := by simp [goesOn]
      rw [eT, eO] at hp
      exact hp _ W1.done W1.keep
    clear hp W0 W1 p1 p2 hrow hbu hg
    go_enter Tryz.func146, Tryz.ntmps146
    go_wp2
    go_end0
    exact HF.out
  · obtain rfl : k = 2 := by
      unfold endGood at hg
      simp only at hg
      repeat' split at hg
      all_goals first | omega | simp at hg
    simp [endGood, below] at hg
    obtain ⟨⟨⟨hr0, hr1⟩, _⟩, _⟩ := hg
    obtain ⟨q, rfl⟩ := Int.eq_ofNat_of_zero_le hr0
    obtain ⟨rv, cv, sv, lv, hrow, hbu, hK⟩ := id W0.mach
    obtain ⟨rb, rc, hrv, hrb, hrc, hrf⟩ := hbu.regs.at (i := q) (by omega)
    subst hrv
    have m1 := hrow.cell (i := 1) rfl
    have o1 := W0.row.cell (i := 1) rfl
    have hbi : (0 : Int) ≤ (q : Int) := by omega
    have hbj : (q : Int) < (s.regs.length : Int) := by omega
    have hn : s.regs.getD q 0 = rg s.regs q := by simp [rg]
    rw [hn] at hrc
    have hG : goesOn s ⟨2, q, x, y⟩ = s.out (if rg s.regs q = 0 then 0 else 1) := by simp [goesOn]
    have hT : goesTo s ⟨2, q, x, y⟩ = if rg s.regs q = 0 then y else x := by simp [goesTo]
    rw [hG, hT] at hp
    generalize rg s.regs q = z at *
    have Wd : ∀ d, RWith K t r w ((w.alloc (.cells #[.int .i64 2, .int .i64 q, .int .i64 x, .int .i64 y] 40)).drewN d) M w.heap.size 40 [.int .i64 2, .int .i64 q, .int .i64 x, .int .i64 y] s := fun d => W0.below (below_drewN (Below.refl _ _) d)
    clear W0 hrow hbu hG hT hn
    by_cases hz0 : z = 0
    · subst hz0
      simp only [if_true] at hp
      go_enter Tryz.func146, Tryz.ntmps146
      go_wp2
      go_quiet (fail)
      generalize hwq : (w.alloc (.cells #[.int .i64 2, .int .i64 q, .int .i64 x, .int .i64 y] 40)).drewN _ = wq
      have Wq : RWith K t r w wq M w.heap.size 40 [.int .i64 2, .int .i64 q, .int .i64 x, .int .i64 y] s := by rw [← hwq]; exact Wd _
      clear Wd hwq m1 o1 hrc hrf o0
      obtain ⟨rv, cv, sv, lv, hrow, hbu, hK⟩ := id Wq.mach
      obtain ⟨lo, lc, rfl⟩ := owns_slice hbu.leak
      have m4 := hrow.cell (i := 4) rfl
      have hbl := (hbu.keep ((Below.refl wq.heap.size wq).alloc (Nat.le_refl _) (.cells #[.int .i64 0] 3))).leak
      go_wp2_with (at_builtin; refine wpList_append_own_at _ rfl _ _ 22 rfl 0 3 i0 (.int .i64 0) 1 8 Tryz.underlying22 ii iz0 iz1 iz2 rfl (by decide) _ _ _ rfl hbl ⟨wq.heap.size, 0, none⟩ 1 1 [.int .i64 0] rfl rfl (by simpa using one_new wq (.int .i64 0) 3) (int_one' _) ?_ ?_ (by omega) ?_)
      · unfold maxLen; omega
      · omega
      intro v1 u1 hown hgrow _ hat
      obtain ⟨⟨hm1, hk1⟩, y4, yf⟩ := refs_app hrow hbu hK hown hgrow (by simpa using hat)
      obtain ⟨lo', lc', rfl⟩ := owns_slice hown
      have W3 := Wq.next hm1 hk1
      clear hrow hbu hown hgrow hat hbl m4 hm1 hk1 Wq
      obtain ⟨rv, cv, sv, lv, hrow, hbu, hK⟩ := id W3.mach
      have m0 := hrow.cell (i := 0) rfl
      have f0 := hrow.frozen 0
      have oo := W3.row.cell (i := 3) rfl
      obtain ⟨p1, p2⟩ := refs_at hrow hbu hK y
      have W4 := W3.next' p1 p2
      have HF : Hid (Post (.returned (.tuple #[])) ((u1.setCell ⟨M, 4, none⟩ (.slice lo' (s.leak.length + 1) lc')).setCell ⟨M, 0, none⟩ (.int .i64 y))) := hp _ W4.done W4.keep
      clear hp W3 W4 p1 p2 hrow hbu
      go_wp2
      go_end0
      exact HF.out
    · simp only [if_neg hz0] at hp
      have hz1 : (z == 0) = false := by simp [hz0]
      go_enter Tryz.func146, Tryz.ntmps146
      go_wp2
      go_quiet (fail)
      generalize hwq : (w.alloc (.cells #[.int .i64 2, .int .i64 q, .int .i64 x, .int .i64 y] 40)).drewN _ = wq
      have Wq : RWith K t r w wq M w.heap.size 40 [.int .i64 2, .int .i64 q, .int .i64 x, .int .i64 y] s := by rw [← hwq]; exact Wd _
      clear Wd hwq m1 o1 hrc hrf o0
      obtain ⟨rv, cv, sv, lv, hrow, hbu, hK⟩ := id Wq.mach
      obtain ⟨lo, lc, rfl⟩ := owns_slice hbu.leak
      have m4 := hrow.cell (i := 4) rfl
      have hbl := (hbu.keep ((Below.refl wq.heap.size wq).alloc (Nat.le_refl _) (.cells #[.int .i64 1] 3))).leak
      go_wp2_with (at_builtin; refine wpList_append_own_at _ rfl _ _ 22 rfl 0 3 i0 (.int .i64 0) 1 8 Tryz.underlying22 ii iz0 iz1 iz2 rfl (by decide) _ _ _ rfl hbl ⟨wq.heap.size, 0, none⟩ 1 1 [.int .i64 1] rfl rfl (by simpa using one_new wq (.int .i64 1) 3) (int_one' _) ?_ ?_ (by omega) ?_)
      · unfold maxLen; omega
      · omega
      intro v1 u1 hown hgrow _ hat
      obtain ⟨⟨hm1, hk1⟩, y4, yf⟩ := refs_app hrow hbu hK hown hgrow (by simpa using hat)
      obtain ⟨lo', lc', rfl⟩ := owns_slice hown
      have W3 := Wq.next hm1 hk1
      clear hrow hbu hown hgrow hat hbl m4 hm1 hk1 Wq
      obtain ⟨rv, cv, sv, lv, hrow, hbu, hK⟩ := id W3.mach
      have m0 := hrow.cell (i := 0) rfl
      have f0 := hrow.frozen 0
      have oo := W3.row.cell (i := 2) rfl
      obtain ⟨p1, p2⟩ := refs_at hrow hbu hK x
      have W4 := W3.next' p1 p2
      have HF : Hid (Post (.returned (.tuple #[])) ((u1.setCell ⟨M, 4, none⟩ (.slice lo' (s.leak.length + 1) lc')).setCell ⟨M, 0, none⟩ (.int .i64 x))) := hp _ W4.done W4.keep
      clear hp W3 W4 p1 p2 hrow hbu
      go_wp2
      go_end0
      exact HF.out

end Go.Proofs.YtblhmeidbjigaabGreatDoor

/- The reference runs a block. -/
set_option linter.unusedSimpArgs false
set_option linter.unusedVariables false
namespace Go.Proofs.YtblhmeidbjigaabGreatDoor
open Go.RowKit

set_option maxRecDepth 100000 in
set_option maxHeartbeats 2000000 in
theorem rBlock_cps (K : Nat → Prop) (r : Int) (M : Nat) (s : RunD) (t : Nat) (bs : List BlockD) (a0 a1 a2 a3 : Int) (v : Value) (regs data slots : Int) (w0 w : World) (h : RefS K t r w M s) (hl : s.leak.length ≤ 90000) (htr : s.trap = 0) (hz : Sized s regs data slots) (hg : blocksGood regs slots bs.length bs = true) (ht : t < bs.length)
    (hrd : RdBlocks w0 v bs) (hK0 : ∀ g, g < w0.heap.size → K g) (hb0 : Below w0.heap.size w0 w) (Post : Ending → World → Prop)
    (hpt : (doOps (bops bs t) s).trap ≠ 0 → ∀ w', RefS K t r w' M (doOps (bops bs t) s) → Keep (fun g => ¬ K g) w w' → Post (.returned (.tuple #[])) w')
    (hp3 : (doOps (bops bs t) s).trap = 0 → bek bs t = 3 → ∀ w', RefS K t (rg (doOps (bops bs t) s).regs (ber bs t)) w' M ((doOps (bops bs t) s).die 1) → Keep (fun g => ¬ K g) w w' → Post (.returned (.tuple #[])) w')
    (hpg : (doOps (bops bs t) s).trap = 0 → bek bs t ≠ 3 → ∀ w', RefS K (goesTo (doOps (bops bs t) s) (bfin bs t)) r w' M (goesOn (doOps (bops bs t) s) (bfin bs t)) → Keep (fun g => ¬ K g) w w' → Post (.returned (.tuple #[])) w') :
    Calls Tryz.prog 113 #[.agg #[.int .i64 a0, .int .i64 a1, .int .i64 a2, .int .i64 a3, v], .pointer (some ⟨M, 0, none⟩)] w Post := by
  obtain ⟨ao, cap, rfl, hll, hc⟩ := hrd
  obtain ⟨b, off, sv, rfl, c0, c1, c2, c3, c4, hops⟩ := hc t ht
  obtain ⟨so, sc, e0, hol, hoc⟩ := id hops
  subst e0
  obtain ⟨g12, gops, gend⟩ := blocksGood_at hg ht
  have hold : ∀ w', Keep (fun g => ¬ K g) w w' → Below w0.heap.size w0 w' := fun w' hk => hb0.trans (hk.toBelow hb0.size (fun g hn => by rcases Nat.lt_or_ge g w0.heap.size with q | q; exact absurd (hK0 g q) hn; exact q))
  have V0 := RWith.start h 25 [.int .i64 a0, .int .i64 a1, .int .i64 a2, .int .i64 a3, .slice (some ⟨b, off, none⟩) bs.length cap]
  clear h hc
  have p4 := V0.row.cell (i := 4) rfl
  obtain ⟨rv, cv, sv', lv, hrow, hbu, hKM⟩ := id V0.mach
  have m0 := hrow.cell (i := 0) rfl
  have hbw := hold _ V0.keep
  have d0 := cell_keep hbw c0
  have d1 := cell_keep hbw c1
  have d2 := cell_keep hbw c2
  have d3 := cell_keep hbw c3
  have d4 := cell_keep hbw c4
  clear hrow hbu hbw c0 c1 c2 c3 c4 hb0 hK0
  obtain ⟨W, hW⟩ : ∃ W, W = w.alloc (.cells #[.int .i64 a0, .int .i64 a1, .int .i64 a2, .int .i64 a3, .slice (some ⟨b, off, none⟩) bs.length cap] 25) := ⟨_, rfl⟩
  have V0 : RWith K t r w W M w.heap.size 25 [.int .i64 a0, .int .i64 a1, .int .i64 a2, .int .i64 a3, .slice (some ⟨b, off, none⟩) bs.length cap] s := by rw [hW]; exact V0
  have V := V0.below ((Below.refl _ _).drew)
  have X0 := RWith.start V.mach 42 [.slice so (bops bs t).length sc, .int .i64 (bek bs t), .int .i64 (ber bs t), .int .i64 (bex bs t), .int .i64 (bey bs t)]
  have hzW : w.heap.size < W.heap.size := by rw [hW]; simp
  have n4 : ∀ w', Below W.heap.size W w' → w'.cell? ⟨w.heap.size, 4, none⟩ = some (.slice (some ⟨b, off, none⟩) bs.length cap) := fun w' hb => cell_keep hb (by rw [hW]; exact p4)
  have nm : ∀ w', Below W.heap.size W w' → w'.cell? ⟨M, 0, none⟩ = some (.int .i64 t) := fun w' hb => cell_keep hb (by rw [hW]; exact m0)
  have n0 : ∀ w', Below W.heap.size W w' → w'.cell? ⟨b, off + t * 5, none⟩ = some (.slice so (bops bs t).length sc) := fun w' hb => cell_keep hb (by rw [hW]; exact d0)
  have n1 : ∀ w', Below W.heap.size W w' → w'.cell? ⟨b, off + t * 5 + 1, none⟩ = some (.int .i64 (bek bs t)) := fun w' hb => cell_keep hb (by rw [hW]; exact d1)
  have n2 : ∀ w', Below W.heap.size W w' → w'.cell? ⟨b, off + t * 5 + 2, none⟩ = some (.int .i64 (ber bs t)) := fun w' hb => cell_keep hb (by rw [hW]; exact d2)
  have n3 : ∀ w', Below W.heap.size W w' → w'.cell? ⟨b, off + t * 5 + 3, none⟩ = some (.int .i64 (bex bs t)) := fun w' hb => cell_keep hb (by rw [hW]; exact d3)
  have n5 : ∀ w', Below W.heap.size W w' → w'.cell? ⟨b, off + t * 5 + 4, none⟩ = some (.int .i64 (bey bs t)) := fun w' hb => cell_keep hb (by rw [hW]; exact d4)
  have hti : (0 : Int) ≤ (t : Int) := by omega
  have htj : (t : Int) < (bs.length : Int) := by omega
  have k0 : Below W.heap.size W W.drew := (Below.refl _ _).drew
  have k1 : Below W.heap.size W (W.drew.alloc (.cells #[.slice none 0 0, .int .i64 0, .int .i64 0, .int .i64 0, .int .i64 0] 42)) := k0.alloc (Nat.le_refl _) _
  have k2 : Below W.heap.size W (W.drew.alloc (.cells #[.slice so (bops bs t).length sc, .int .i64 (bek bs t), .int .i64 (ber bs t), .int .i64 (bex bs t), .int .i64 (bey bs t)] 42)) := k0.alloc (Nat.le_refl _) _
  clear p4 m0 d0 d1 d2 d3 d4 V0
  go_enter Tryz.func113, Tryz.ntmps113
  go_wp2
  rw [← hW]
  clear hW
  go_region_held3 (fun w' => Below W.heap.size W w') (first | with_reducible exact k0 | with_reducible exact k1 | with_reducible exact k2 | exact k1 | exact k2) (fail)
  clear n4 nm n0 n1 n2 n3 n5 k0 k1 k2
  go_wp2
  go_loopw [5] (fun i wr => ∃ (k : Nat), k ≤ (bops bs t).length ∧ i = .int .i64 k ∧ (doOps ((bops bs t).take k) s).trap = 0 ∧ RWith (fun g => K g ∨ g = w.heap.size) t r W.drew wr M W.heap.size 42 [.slice so (bops bs t).length sc, .int .i64 (bek bs t), .int .i64 (ber bs t), .int .i64 (bex bs t), .int .i64 (bey bs t)] (doOps ((bops bs t).take k) s))
    (fun i _ => (bops bs t).length - (intOf i).toNat)
  case atStart => exact ⟨0, Nat.zero_le _, rfl, htr, X0⟩
  case round =>
    clear X0
    obtain ⟨k, hk, rfl, htk, X⟩ := hrel
    have hVX : Keep (fun g => ¬ K g) w wr := V.keep.trans (X.keep.mono (fun g hn e => hn (.inl e)))
    have hlk : (doOps ((bops bs t).take k) s).leak.length ≤ 99000 := by
      have := doOps_leak ((bops bs t).take k) s
      have : ((bops bs t).take k).length ≤ (bops bs t).length := by rw [List.length_take]; omega
      omega
    have hzk : Sized (doOps ((bops bs t).take k) s) regs data slots := hz.doOps _
    have b0 := X.row.cell (i := 0) rfl
    by_cases hlt : k < (bops bs t).length
    · obtain ⟨b2, off2, rfl, e0, e1, e2, e3⟩ := hoc k hlt
      have hbk := hold wr hVX
      have x0 := cell_keep hbk e0
      have x1 := cell_keep hbk e1
      have x2 := cell_keep hbk e2
      have x3 := cell_keep hbk e3
      clear hbk e0 e1 e2 e3
      go_wp2_with fail
      refine does_cps _ t r M _ ⟨okind (bops bs t) k, oa (bops bs t) k, ob (bops bs t) k, oc (bops bs t) k⟩ regs data slots wr X.mach (by omega) hzk (opsGood_at gops hlt) _ ?_
      intro w2 hm2 hk2
      have hm3 : RefS (fun g => (K g ∨ g = w.heap.size) ∨ g = W.heap.size) t r w2 M (doOps ((bops bs t).take (k + 1)) s) := by rw [doOps_take hlt, if_pos htk]; exact hm2
      have X2 := X.next hm3 hk2
      clear X hm2 hm3 hk2 x0 x1 x2 x3 b0
      obtain ⟨rv, cv, sv', lv, hrow, hbu, hKM⟩ := id X2.mach
      have m5 := hrow.cell (i := 5) rfl
      clear hrow hbu
      by_cases ht2 : (doOps ((bops bs t).take (k + 1)) s).trap = 0
      · rw [ht2] at m5
        go_wp2
        go_roundw
        case rel => exact ⟨k + 1, by omega, by go_num, ht2, X2⟩
        case measure => simp [intOf]; omega
      · have hst := doOps_stop ht2
        have Y := V.next X2.done (X2.keep.mono (fun g hn e => hn e))
        rw [← hst] at Y ht2 m5
        have HF : Hid (Post (.returned (.tuple #[])) w2) := hpt ht2 _ Y.done Y.keep
        have hne : ((doOps (bops bs t) s).trap == 0) = false := by simp [ht2]
        clear hpt hp3 hpg X2 Y V hst
        generalize (doOps (bops bs t) s).trap = tr at *
        go_wp2
        (try simp only [Exit.inBlock, Exit.then])
        refine bodyPost_ret (v := .tuple #[]) ?_ rfl ?_
        · simp [results, Tryz.results113, go_sem]
        · exact HF.out
    · obtain rfl : k = (bops bs t).length := by omega
      rw [List.take_length] at htk X hlk hzk
      have b1 := X.row.cell (i := 1) rfl
      have b2 := X.row.cell (i := 2) rfl
      have b3 := X.row.cell (i := 3) rfl
      have b4 := X.row.cell (i := 4) rfl
      go_wp2_with fail
      refine leaves_cps _ t r M _ (bfin bs t) regs bs.length wr X.mach (by omega) hzk.regs gend _ ?_ ?_
      · intro h3 w2 hm2 hk2
        have X2 := X.next' hm2 hk2
        have Y := V.next' X2.done (X2.keep.mono (fun g hn e => hn e))
        have HF : Hid (Post (.returned (.tuple #[])) w2) := hp3 htk h3 _ Y.done Y.keep
        clear hpt hp3 hpg X X2 Y V hm2 hk2
        go_wp2
        go_end0
        exact HF.out
      · intro h3 w2 hm2 hk2
        have X2 := X.next' hm2 hk2
        have Y := V.next' X2.done (X2.keep.mono (fun g hn e => hn e))
        have HF : Hid (Post (.returned (.tuple #[])) w2) := hpg htk h3 _ Y.done Y.keep
        clear hpt hp3 hpg X X2 Y V hm2 hk2
        go_wp2
        go_end0
        exact HF.out

end Go.Proofs.YtblhmeidbjigaabGreatDoor

/- Lists cut or filled up to a length; an input for a program. -/
set_option linter.unusedSimpArgs false
set_option linter.unusedVariables false
namespace Go.Proofs.YtblhmeidbjigaabGreatDoor
open Go.RowKit

def padTo (l : List Int) (n : Nat) : List Int := (List.range n).map fun i => l.getD i 0

theorem padTo_length (l : List Int) (n : Nat) : (padTo l n).length = n := by simp [padTo]

theorem padTo_snoc (l : List Int) (n : Nat) : ints (padTo l (n + 1)) = ints (padTo l n) ++ [.int .i64 (l.getD n 0)] := by
  rw [← ints_snoc]
  simp [padTo, List.range_succ]

set_option maxRecDepth 100000 in
set_option maxHeartbeats 2000000 in
theorem rList_cps (v : Value) (l : List Int) (n : Nat) (w : World) (hr : RdWords w v l) (hn : n ≤ 1000) (Post : Ending → World → Prop)
    (hp : ∀ v' w', w'.ownsRow w.heap.size 3 1 v' (padTo l n).length (ints (padTo l n)) → Below w.heap.size w w' → Post (.returned v') w') :
    Calls Tryz.prog 112 #[v, .int .i64 n] w Post := by
  obtain ⟨ao, cap, rfl, hll, hc⟩ := hr
  obtain ⟨i0, ii, iz0, iz1, iz2⟩ := info_parts Tryz.infoInt
  go_enter Tryz.func112, Tryz.ntmps112
  go_wp2
  go_loopw [5, 6] (fun o i wr => ∃ (k : Nat), k ≤ n ∧ i = .int .i64 k ∧ wr.ownsRow w.heap.size 3 1 o k (ints (padTo l k)) ∧ Below w.heap.size w wr)
    (fun _ i _ => n - (intOf i).toNat)
  case atStart => exact ⟨0, Nat.zero_le _, rfl, World.ownsRow_nil _ _ _ _, Below.refl _ _⟩
  case round =>
    obtain ⟨k, hk, rfl, hown, hbel⟩ := hrel
    obtain ⟨lo, lc, rfl⟩ := owns_slice hown
    have hz := hbel.size
    by_cases hlt : k < n
    · have HT : Hid (ints (padTo l (k + 1)) = ints (padTo l k) ++ [.int .i64 (l.getD k 0)]) := padTo_snoc l k
      by_cases hin : k < l.length
      · obtain ⟨b, off, rfl, h1⟩ := hc k hin
        have h2 := cell_keep hbel h1
        clear h1
        generalize l.getD k 0 = x at *
        go_wp2_with (at_builtin; refine wpList_append_own _ rfl _ _ 22 rfl w.heap.size 3 i0 (.int .i64 0) 1 8 Tryz.underlying22 ii iz0 iz1 iz2 rfl (by decide) _ _ _ rfl (hown.alloc _) ⟨wr.heap.size, 0, none⟩ 1 1 [.int .i64 x] rfl rfl ?c1 (int_one _) ?c3 ?c4 ?c5 ?_)
        case c1 => exact one_new wr _ _
        case c3 => unfold maxLen; omega
        case c4 => omega
        case c5 => simp; omega
        intro v' w3 hown' hgrow _
        rw [← HT.out] at hown'
        have hb3 := (hbel.alloc hz (.cells #[.int .i64 x] 3)).grown hgrow (by simp; omega) (fun g hg => (hown.lt g hg).1)
        obtain ⟨lo', lc', rfl⟩ := owns_slice hown'
        clear hgrow hown h2 hbel HT
        go_wp2
        go_roundw
        case rel => exact ⟨k + 1, by omega, by go_num, hown', hb3⟩
        case measure => simp [intOf]; omega
      · have hx : l.getD k 0 = 0 := by simp [List.getD, hin]
        rw [hx] at HT
        go_wp2_with (at_builtin; refine wpList_append_own _ rfl _ _ 22 rfl w.heap.size 3 i0 (.int .i64 0) 1 8 Tryz.underlying22 ii iz0 iz1 iz2 rfl (by decide) _ _ _ rfl (hown.alloc _) ⟨wr.heap.size, 0, none⟩ 1 1 [.int .i64 0] rfl rfl ?d1 (int_one _) ?d3 ?d4 ?d5 ?_)
        case d1 => exact one_new wr _ _
        case d3 => unfold maxLen; omega
        case d4 => omega
        case d5 => simp; omega
        intro v' w3 hown' hgrow _
        rw [← HT.out] at hown'
        have hb3 := (hbel.alloc hz (.cells #[.int .i64 0] 3)).grown hgrow (by simp; omega) (fun g hg => (hown.lt g hg).1)
        obtain ⟨lo', lc', rfl⟩ := owns_slice hown'
        clear hgrow hown hbel HT
        go_wp2
        go_roundw
        case rel => exact ⟨k + 1, by omega, by go_num, hown', hb3⟩
        case measure => simp [intOf]; omega
    · obtain rfl : k = n := by omega
      have HF : Hid (Post (.returned (.slice lo k lc)) wr) := hp _ _ (by rw [padTo_length]; exact hown) hbel
      clear hp hown hbel hc
      go_wp2
      exact HF.out

end Go.Proofs.YtblhmeidbjigaabGreatDoor
