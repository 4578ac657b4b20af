/- The reference leaves a block. -/
import Derived.Test.YtblhmeidbjigaaaRows
import Derived.WalkKit
import Derived.WalkSpells
import Derived.WalkLawsBesides
import Derived.Laws.BytesArg
import Derived.Deep.QuietTactic
import Derived.BigQuiet
import Derived.Deep.RegionHeld3
import Derived.Maps.AppendAt
import Derived.StillTailTactics
import Derived.Test.YtblhmeidbjigaaaRDoesToMRunRuns

set_option linter.unusedSimpArgs false
set_option linter.unusedVariables false
namespace Go.Proofs.Ytblhmeidbjigaaa
open Go.RowKit

theorem refs_at {K : Nat → Prop} {t r : Int} {w : World} {M : Nat} {s : RunD} {rv cv sv lv : Value} (hrow : Row w M 120 [.int .i64 t, rv, cv, sv, lv, .int .i64 s.trap, .int .i64 r]) (hbu : Bunch K w rv cv sv lv s) (hK : ¬ K M) (u : Int) :
    RefS K u r (w.setCell ⟨M, 0, none⟩ (.int .i64 u)) M s ∧ Keep (fun g => ¬ K g) w (w.setCell ⟨M, 0, none⟩ (.int .i64 u)) :=
  ⟨⟨rv, cv, sv, lv, hrow.set 0 (.int .i64 u), hbu.far hrow (by decide) 0 _, hK⟩, (Keep.refl _ _).setCell (.inl hK) _⟩

theorem refs_res {K : Nat → Prop} {t r : Int} {w : World} {M : Nat} {s : RunD} {rv cv sv lv : Value} (hrow : Row w M 120 [.int .i64 t, rv, cv, sv, lv, .int .i64 s.trap, .int .i64 r]) (hbu : Bunch K w rv cv sv lv s) (hK : ¬ K M) (u : Int) :
    RefS K t u (w.setCell ⟨M, 6, none⟩ (.int .i64 u)) M s ∧ Keep (fun g => ¬ K g) w (w.setCell ⟨M, 6, none⟩ (.int .i64 u)) :=
  ⟨⟨rv, cv, sv, lv, hrow.set 6 (.int .i64 u), hbu.far hrow (by decide) 6 _, hK⟩, (Keep.refl _ _).setCell (.inl hK) _⟩

set_option maxRecDepth 100000 in
set_option maxHeartbeats 2000000 in
theorem leaves_cps (K : Nat → Prop) (t r : Int) (M : Nat) (s : RunD) (e : EndD) (regs nb : Int) (w : World) (h : RefS K t r w M s) (hl : s.leak.length ≤ 99999) (hz : (s.regs.length : Int) = regs) (hg : endGood regs nb e = true) (Post : Ending → World → Prop)
    (hp3 : e.kind = 3 → ∀ w', RefS K t (rg s.regs e.r) w' M (s.die 1) → Keep (fun g => ¬ K g) w w' → Post (.returned (.tuple #[])) w')
    (hpg : e.kind ≠ 3 → ∀ w', RefS K (goesTo s e) r w' M (goesOn s e) → Keep (fun g => ¬ K g) w w' → Post (.returned (.tuple #[])) w') :
    Calls Try.prog 92 #[.pointer (some ⟨M, 0, none⟩), .agg #[.int .i64 e.kind, .int .i64 e.r, .int .i64 e.x, .int .i64 e.y]] w Post := by
  obtain ⟨i0, ii, iz0, iz1, iz2⟩ := info_parts Try.infoInt
  obtain ⟨k, q, x, y⟩ := e
  simp only at hp3 hpg ⊢
  have W0 := RWith.start h 88 [.int .i64 k, .int .i64 q, .int .i64 x, .int .i64 y]
  have o0 := W0.row.cell (i := 0) rfl
  clear h
  by_cases h3 : k = 3
  · subst h3
    have hp := hp3 rfl
    clear hp3 hpg
    simp [endGood, below] at hg
    obtain ⟨⟨⟨hr0, hr1⟩, hx0⟩, hy0⟩ := hg
    subst hx0 hy0
    obtain ⟨q, rfl⟩ := Int.eq_ofNat_of_zero_le hr0
    obtain ⟨rv, cv, sv, lv, hrow, hbu, hK⟩ := id W0.mach
    have m5 := hrow.cell (i := 5) rfl
    have f5 := hrow.frozen 5
    obtain ⟨p1, p2⟩ := refs_die hrow hbu hK 1
    have W1 := W0.next p1 p2
    clear hrow hbu W0 p1 p2
    have Wd := W1.below ((Below.refl _ _).drew)
    obtain ⟨rv, cv, sv, lv, hrow, hbu, hK⟩ := id Wd.mach
    obtain ⟨rb, rc, hrv, hrb, hrc, hrf⟩ := hbu.regs.at (i := q) (by show q < s.regs.length; omega)
    subst hrv
    have hn : (s.die 1).regs.getD q 0 = rg s.regs q := by simp [rg, RunD.die]
    rw [hn] at hrc
    have m1 := hrow.cell (i := 1) rfl
    have m6 := hrow.cell (i := 6) rfl
    have f6 := hrow.frozen 6
    have o1 := Wd.row.cell (i := 1) rfl
    have hbi : (0 : Int) ≤ (q : Int) := by omega
    have hbj : (q : Int) < ((s.die 1).regs.length : Int) := by show (q : Int) < (s.regs.length : Int); omega
    obtain ⟨p1, p2⟩ := refs_res hrow hbu hK (rg s.regs q)
    have W2 := Wd.next' p1 p2
    have HF : Hid (Post (.returned (.tuple #[])) (((w.alloc (.cells #[.int .i64 3, .int .i64 q, .int .i64 0, .int .i64 0] 88)).setCell ⟨M, 5, none⟩ (.int .i64 1)).drew.setCell ⟨M, 6, none⟩ (.int .i64 (rg s.regs q)))) := hp _ W2.done W2.keep
    clear hp W1 W2 Wd p1 p2 hrow hbu hn
    generalize rg s.regs q = z at *
    go_enter Try.func92, Try.ntmps92
    go_wp2
    refine wp_tail 11 (by kernel_rfl) (by kernel_rfl) ?_
    simp only [List.take_succ_cons, List.take_zero, List.drop_succ_cons, List.drop_zero]
    repeat still_step
    refine wpStill_nil ?_
    go_wp2
    go_end0
    exact HF.out
  have hp := hpg h3
  clear hp3 hpg
  by_cases h1 : k = 1
  · subst h1
    obtain ⟨rv, cv, sv, lv, hrow, hbu, hK⟩ := id W0.mach
    have m0 := hrow.cell (i := 0) rfl
    have f0 := hrow.frozen 0
    have o2 := W0.row.cell (i := 2) rfl
    obtain ⟨p1, p2⟩ := refs_at hrow hbu hK x
    have W1 := W0.next' p1 p2
    have HF : Hid (Post (.returned (.tuple #[])) ((w.alloc (.cells #[.int .i64 1, .int .i64 q, .int .i64 x, .int .i64 y] 88)).setCell ⟨M, 0, none⟩ (.int .i64 x))) := by
      have eT : goesTo s ⟨1, q, x, y⟩ = x := by simp [goesTo]
      have eO : goesOn s ⟨1, q, x, y⟩ = s := by simp [goesOn]
      rw [eT, eO] at hp
      exact hp _ W1.done W1.keep
    clear hp W0 W1 p1 p2 hrow hbu hg
    go_enter Try.func92, Try.ntmps92
    go_wp2
    go_end0
    exact HF.out
  · obtain rfl : k = 2 := by
      unfold endGood at hg
      simp only at hg
      repeat' split at hg
      all_goals first | omega | simp at hg
    simp [endGood, below] at hg
    obtain ⟨⟨⟨hr0, hr1⟩, _⟩, _⟩ := hg
    obtain ⟨q, rfl⟩ := Int.eq_ofNat_of_zero_le hr0
    obtain ⟨rv, cv, sv, lv, hrow, hbu, hK⟩ := id W0.mach
    obtain ⟨rb, rc, hrv, hrb, hrc, hrf⟩ := hbu.regs.at (i := q) (by omega)
    subst hrv
    have m1 := hrow.cell (i := 1) rfl
    have o1 := W0.row.cell (i := 1) rfl
    have hbi : (0 : Int) ≤ (q : Int) := by omega
    have hbj : (q : Int) < (s.regs.length : Int) := by omega
    have hn : s.regs.getD q 0 = rg s.regs q := by simp [rg]
    rw [hn] at hrc
    have hG : goesOn s ⟨2, q, x, y⟩ = s.out (if rg s.regs q = 0 then 0 else 1) := by simp [goesOn]
    have hT : goesTo s ⟨2, q, x, y⟩ = if rg s.regs q = 0 then y else x := by simp [goesTo]
    rw [hG, hT] at hp
    generalize rg s.regs q = z at *
    have Wd : ∀ d, RWith K t r w ((w.alloc (.cells #[.int .i64 2, .int .i64 q, .int .i64 x, .int .i64 y] 88)).drewN d) M w.heap.size 88 [.int .i64 2, .int .i64 q, .int .i64 x, .int .i64 y] s := fun d => W0.below (below_drewN (Below.refl _ _) d)
    clear W0 hrow hbu hG hT hn
    by_cases hz0 : z = 0
    · subst hz0
      simp only [if_true] at hp
      go_enter Try.func92, Try.ntmps92
      go_wp2
      go_quiet (fail)
      generalize hwq : (w.alloc (.cells #[.int .i64 2, .int .i64 q, .int .i64 x, .int .i64 y] 88)).drewN _ = wq
      have Wq : RWith K t r w wq M w.heap.size 88 [.int .i64 2, .int .i64 q, .int .i64 x, .int .i64 y] s := by rw [← hwq]; exact Wd _
      clear Wd hwq m1 o1 hrc hrf o0
      obtain ⟨rv, cv, sv, lv, hrow, hbu, hK⟩ := id Wq.mach
      obtain ⟨lo, lc, rfl⟩ := owns_slice hbu.leak
      have m4 := hrow.cell (i := 4) rfl
      have hbl := (hbu.keep ((Below.refl wq.heap.size wq).alloc (Nat.le_refl _) (.cells #[.int .i64 0] 3))).leak
      go_wp2_with (at_builtin; refine wpList_append_own_at _ rfl _ _ 36 rfl 0 3 i0 (.int .i64 0) 1 8 Try.underlying36 ii iz0 iz1 iz2 rfl (by decide) _ _ _ rfl hbl ⟨wq.heap.size, 0, none⟩ 1 1 [.int .i64 0] rfl rfl (by simpa using one_new wq (.int .i64 0) 3) (int_one' _) ?_ ?_ (by omega) ?_)
      · unfold maxLen; omega
      · omega
      intro v1 u1 hown hgrow _ hat
      obtain ⟨⟨hm1, hk1⟩, y4, yf⟩ := refs_app hrow hbu hK hown hgrow (by simpa using hat)
      obtain ⟨lo', lc', rfl⟩ := owns_slice hown
      have W3 := Wq.next hm1 hk1
      clear hrow hbu hown hgrow hat hbl m4 hm1 hk1 Wq
      obtain ⟨rv, cv, sv, lv, hrow, hbu, hK⟩ := id W3.mach
      have m0 := hrow.cell (i := 0) rfl
      have f0 := hrow.frozen 0
      have oo := W3.row.cell (i := 3) rfl
      obtain ⟨p1, p2⟩ := refs_at hrow hbu hK y
      have W4 := W3.next' p1 p2
      have HF : Hid (Post (.returned (.tuple #[])) ((u1.setCell ⟨M, 4, none⟩ (.slice lo' (s.leak.length + 1) lc')).setCell ⟨M, 0, none⟩ (.int .i64 y))) := hp _ W4.done W4.keep
      clear hp W3 W4 p1 p2 hrow hbu
      go_wp2
      go_end0
      exact HF.out
    · simp only [if_neg hz0] at hp
      have hz1 : (z == 0) = false := by simp [hz0]
      go_enter Try.func92, Try.ntmps92
      go_wp2
      go_quiet (fail)
      generalize hwq : (w.alloc (.cells #[.int .i64 2, .int .i64 q, .int .i64 x, .int .i64 y] 88)).drewN _ = wq
      have Wq : RWith K t r w wq M w.heap.size 88 [.int .i64 2, .int .i64 q, .int .i64 x, .int .i64 y] s := by rw [← hwq]; exact Wd _
      clear Wd hwq m1 o1 hrc hrf o0
      obtain ⟨rv, cv, sv, lv, hrow, hbu, hK⟩ := id Wq.mach
      obtain ⟨lo, lc, rfl⟩ := owns_slice hbu.leak
      have m4 := hrow.cell (i := 4) rfl
      have hbl := (hbu.keep ((Below.refl wq.heap.size wq).alloc (Nat.le_refl _) (.cells #[.int .i64 1] 3))).leak
      go_wp2_with (at_builtin; refine wpList_append_own_at _ rfl _ _ 36 rfl 0 3 i0 (.int .i64 0) 1 8 Try.underlying36 ii iz0 iz1 iz2 rfl (by decide) _ _ _ rfl hbl ⟨wq.heap.size, 0, none⟩ 1 1 [.int .i64 1] rfl rfl (by simpa using one_new wq (.int .i64 1) 3) (int_one' _) ?_ ?_ (by omega) ?_)
      · unfold maxLen; omega
      · omega
      intro v1 u1 hown hgrow _ hat
      obtain ⟨⟨hm1, hk1⟩, y4, yf⟩ := refs_app hrow hbu hK hown hgrow (by simpa using hat)
      obtain ⟨lo', lc', rfl⟩ := owns_slice hown
      have W3 := Wq.next hm1 hk1
      clear hrow hbu hown hgrow hat hbl m4 hm1 hk1 Wq
      obtain ⟨rv, cv, sv, lv, hrow, hbu, hK⟩ := id W3.mach
      have m0 := hrow.cell (i := 0) rfl
      have f0 := hrow.frozen 0
      have oo := W3.row.cell (i := 2) rfl
      obtain ⟨p1, p2⟩ := refs_at hrow hbu hK x
      have W4 := W3.next' p1 p2
      have HF : Hid (Post (.returned (.tuple #[])) ((u1.setCell ⟨M, 4, none⟩ (.slice lo' (s.leak.length + 1) lc')).setCell ⟨M, 0, none⟩ (.int .i64 x))) := hp _ W4.done W4.keep
      clear hp W3 W4 p1 p2 hrow hbu
      go_wp2
      go_end0
      exact HF.out

end Go.Proofs.Ytblhmeidbjigaaa

/- The reference runs a block. -/
set_option linter.unusedSimpArgs false
set_option linter.unusedVariables false
namespace Go.Proofs.Ytblhmeidbjigaaa
open Go.RowKit

set_option maxRecDepth 100000 in
set_option maxHeartbeats 2000000 in
theorem rBlock_cps (K : Nat → Prop) (r : Int) (M : Nat) (s : RunD) (t : Nat) (bs : List BlockD) (a0 a1 a2 a3 : Int) (v : Value) (regs data slots : Int) (w0 w : World) (h : RefS K t r w M s) (hl : s.leak.length ≤ 90000) (htr : s.trap = 0) (hz : Sized s regs data slots) (hg : blocksGood regs slots bs.length bs = true) (ht : t < bs.length)
    (hrd : RdBlocks w0 v bs) (hK0 : ∀ g, g < w0.heap.size → K g) (hb0 : Below w0.heap.size w0 w) (Post : Ending → World → Prop)
    (hpt : (doOps (bops bs t) s).trap ≠ 0 → ∀ w', RefS K t r w' M (doOps (bops bs t) s) → Keep (fun g => ¬ K g) w w' → Post (.returned (.tuple #[])) w')
    (hp3 : (doOps (bops bs t) s).trap = 0 → bek bs t = 3 → ∀ w', RefS K t (rg (doOps (bops bs t) s).regs (ber bs t)) w' M ((doOps (bops bs t) s).die 1) → Keep (fun g => ¬ K g) w w' → Post (.returned (.tuple #[])) w')
    (hpg : (doOps (bops bs t) s).trap = 0 → bek bs t ≠ 3 → ∀ w', RefS K (goesTo (doOps (bops bs t) s) (bfin bs t)) r w' M (goesOn (doOps (bops bs t) s) (bfin bs t)) → Keep (fun g => ¬ K g) w w' → Post (.returned (.tuple #[])) w') :
    Calls Try.prog 81 #[.agg #[.int .i64 a0, .int .i64 a1, .int .i64 a2, .int .i64 a3, v], .pointer (some ⟨M, 0, none⟩)] w Post := by
  obtain ⟨ao, cap, rfl, hll, hc⟩ := hrd
  obtain ⟨b, off, sv, rfl, c0, c1, c2, c3, c4, hops⟩ := hc t ht
  obtain ⟨so, sc, e0, hol, hoc⟩ := id hops
  subst e0
  obtain ⟨g12, gops, gend⟩ := blocksGood_at hg ht
  have hold : ∀ w', Keep (fun g => ¬ K g) w w' → Below w0.heap.size w0 w' := fun w' hk => hb0.trans (hk.toBelow hb0.size (fun g hn => by rcases Nat.lt_or_ge g w0.heap.size with q | q; exact absurd (hK0 g q) hn; exact q))
  have V0 := RWith.start h 24 [.int .i64 a0, .int .i64 a1, .int .i64 a2, .int .i64 a3, .slice (some ⟨b, off, none⟩) bs.length cap]
  clear h hc
  have p4 := V0.row.cell (i := 4) rfl
  obtain ⟨rv, cv, sv', lv, hrow, hbu, hKM⟩ := id V0.mach
  have m0 := hrow.cell (i := 0) rfl
  have hbw := hold _ V0.keep
  have d0 := cell_keep hbw c0
  have d1 := cell_keep hbw c1
  have d2 := cell_keep hbw c2
  have d3 := cell_keep hbw c3
  have d4 := cell_keep hbw c4
  clear hrow hbu hbw c0 c1 c2 c3 c4 hb0 hK0
  obtain ⟨W, hW⟩ : ∃ W, W = w.alloc (.cells #[.int .i64 a0, .int .i64 a1, .int .i64 a2, .int .i64 a3, .slice (some ⟨b, off, none⟩) bs.length cap] 24) := ⟨_, rfl⟩
  have V0 : RWith K t r w W M w.heap.size 24 [.int .i64 a0, .int .i64 a1, .int .i64 a2, .int .i64 a3, .slice (some ⟨b, off, none⟩) bs.length cap] s := by rw [hW]; exact V0
  have V := V0.below ((Below.refl _ _).drew)
  have X0 := RWith.start V.mach 90 [.slice so (bops bs t).length sc, .int .i64 (bek bs t), .int .i64 (ber bs t), .int .i64 (bex bs t), .int .i64 (bey bs t)]
  have hzW : w.heap.size < W.heap.size := by rw [hW]; simp
  have n4 : ∀ w', Below W.heap.size W w' → w'.cell? ⟨w.heap.size, 4, none⟩ = some (.slice (some ⟨b, off, none⟩) bs.length cap) := fun w' hb => cell_keep hb (by rw [hW]; exact p4)
  have nm : ∀ w', Below W.heap.size W w' → w'.cell? ⟨M, 0, none⟩ = some (.int .i64 t) := fun w' hb => cell_keep hb (by rw [hW]; exact m0)
  have n0 : ∀ w', Below W.heap.size W w' → w'.cell? ⟨b, off + t * 5, none⟩ = some (.slice so (bops bs t).length sc) := fun w' hb => cell_keep hb (by rw [hW]; exact d0)
  have n1 : ∀ w', Below W.heap.size W w' → w'.cell? ⟨b, off + t * 5 + 1, none⟩ = some (.int .i64 (bek bs t)) := fun w' hb => cell_keep hb (by rw [hW]; exact d1)
  have n2 : ∀ w', Below W.heap.size W w' → w'.cell? ⟨b, off + t * 5 + 2, none⟩ = some (.int .i64 (ber bs t)) := fun w' hb => cell_keep hb (by rw [hW]; exact d2)
  have n3 : ∀ w', Below W.heap.size W w' → w'.cell? ⟨b, off + t * 5 + 3, none⟩ = some (.int .i64 (bex bs t)) := fun w' hb => cell_keep hb (by rw [hW]; exact d3)
  have n5 : ∀ w', Below W.heap.size W w' → w'.cell? ⟨b, off + t * 5 + 4, none⟩ = some (.int .i64 (bey bs t)) := fun w' hb => cell_keep hb (by rw [hW]; exact d4)
  have hti : (0 : Int) ≤ (t : Int) := by omega
  have htj : (t : Int) < (bs.length : Int) := by omega
  have k0 : Below W.heap.size W W.drew := (Below.refl _ _).drew
  have k1 : Below W.heap.size W (W.drew.alloc (.cells #[.slice none 0 0, .int .i64 0, .int .i64 0, .int .i64 0, .int .i64 0] 90)) := k0.alloc (Nat.le_refl _) _
  have k2 : Below W.heap.size W (W.drew.alloc (.cells #[.slice so (bops bs t).length sc, .int .i64 (bek bs t), .int .i64 (ber bs t), .int .i64 (bex bs t), .int .i64 (bey bs t)] 90)) := k0.alloc (Nat.le_refl _) _
  clear p4 m0 d0 d1 d2 d3 d4 V0
  go_enter Try.func81, Try.ntmps81
  go_wp2
  rw [← hW]
  clear hW
  go_region_held3 (fun w' => Below W.heap.size W w') (first | with_reducible exact k0 | with_reducible exact k1 | with_reducible exact k2 | exact k1 | exact k2) (fail)
  clear n4 nm n0 n1 n2 n3 n5 k0 k1 k2
  go_wp2
  go_loopw [5] (fun i wr => ∃ (k : Nat), k ≤ (bops bs t).length ∧ i = .int .i64 k ∧ (doOps ((bops bs t).take k) s).trap = 0 ∧ RWith (fun g => K g ∨ g = w.heap.size) t r W.drew wr M W.heap.size 90 [.slice so (bops bs t).length sc, .int .i64 (bek bs t), .int .i64 (ber bs t), .int .i64 (bex bs t), .int .i64 (bey bs t)] (doOps ((bops bs t).take k) s))
    (fun i _ => (bops bs t).length - (intOf i).toNat)
  case atStart => exact ⟨0, Nat.zero_le _, rfl, htr, X0⟩
  case round =>
    clear X0
    obtain ⟨k, hk, rfl, htk, X⟩ := hrel
    have hVX : Keep (fun g => ¬ K g) w wr := V.keep.trans (X.keep.mono (fun g hn e => hn (.inl e)))
    have hlk : (doOps ((bops bs t).take k) s).leak.length ≤ 99000 := by
      have := doOps_leak ((bops bs t).take k) s
      have : ((bops bs t).take k).length ≤ (bops bs t).length := by rw [List.length_take]; omega
      omega
    have hzk : Sized (doOps ((bops bs t).take k) s) regs data slots := hz.doOps _
    have b0 := X.row.cell (i := 0) rfl
    by_cases hlt : k < (bops bs t).length
    · obtain ⟨b2, off2, rfl, e0, e1, e2, e3⟩ := hoc k hlt
      have hbk := hold wr hVX
      have x0 := cell_keep hbk e0
      have x1 := cell_keep hbk e1
      have x2 := cell_keep hbk e2
      have x3 := cell_keep hbk e3
      clear hbk e0 e1 e2 e3
      go_wp2_with fail
      refine does_cps _ t r M _ ⟨okind (bops bs t) k, oa (bops bs t) k, ob (bops bs t) k, oc (bops bs t) k⟩ regs data slots wr X.mach (by omega) hzk (opsGood_at gops hlt) _ ?_
      intro w2 hm2 hk2
      have hm3 : RefS (fun g => (K g ∨ g = w.heap.size) ∨ g = W.heap.size) t r w2 M (doOps ((bops bs t).take (k + 1)) s) := by rw [doOps_take hlt, if_pos htk]; exact hm2
      have X2 := X.next hm3 hk2
      clear X hm2 hm3 hk2 x0 x1 x2 x3 b0
      obtain ⟨rv, cv, sv', lv, hrow, hbu, hKM⟩ := id X2.mach
      have m5 := hrow.cell (i := 5) rfl
      clear hrow hbu
      by_cases ht2 : (doOps ((bops bs t).take (k + 1)) s).trap = 0
      · rw [ht2] at m5
        go_wp2
        go_roundw
        case rel => exact ⟨k + 1, by omega, by go_num, ht2, X2⟩
        case measure => simp [intOf]; omega
      · have hst := doOps_stop ht2
        have Y := V.next X2.done (X2.keep.mono (fun g hn e => hn e))
        rw [← hst] at Y ht2 m5
        have HF : Hid (Post (.returned (.tuple #[])) w2) := hpt ht2 _ Y.done Y.keep
        have hne : ((doOps (bops bs t) s).trap == 0) = false := by simp [ht2]
        clear hpt hp3 hpg X2 Y V hst
        generalize (doOps (bops bs t) s).trap = tr at *
        go_wp2
        (try simp only [Exit.inBlock, Exit.then])
        refine bodyPost_ret (v := .tuple #[]) ?_ rfl ?_
        · simp [results, Try.results81, go_sem]
        · exact HF.out
    · obtain rfl : k = (bops bs t).length := by omega
      rw [List.take_length] at htk X hlk hzk
      have b1 := X.row.cell (i := 1) rfl
      have b2 := X.row.cell (i := 2) rfl
      have b3 := X.row.cell (i := 3) rfl
      have b4 := X.row.cell (i := 4) rfl
      go_wp2_with fail
      refine leaves_cps _ t r M _ (bfin bs t) regs bs.length wr X.mach (by omega) hzk.regs gend _ ?_ ?_
      · intro h3 w2 hm2 hk2
        have X2 := X.next' hm2 hk2
        have Y := V.next' X2.done (X2.keep.mono (fun g hn e => hn e))
        have HF : Hid (Post (.returned (.tuple #[])) w2) := hp3 htk h3 _ Y.done Y.keep
        clear hpt hp3 hpg X X2 Y V hm2 hk2
        go_wp2
        go_end0
        exact HF.out
      · intro h3 w2 hm2 hk2
        have X2 := X.next' hm2 hk2
        have Y := V.next' X2.done (X2.keep.mono (fun g hn e => hn e))
        have HF : Hid (Post (.returned (.tuple #[])) w2) := hpg htk h3 _ Y.done Y.keep
        clear hpt hp3 hpg X X2 Y V hm2 hk2
        go_wp2
        go_end0
        exact HF.out

end Go.Proofs.Ytblhmeidbjigaaa

/- Lists of words that are read. -/
set_option linter.unusedSimpArgs false
set_option linter.unusedVariables false
namespace Go.Proofs.Ytblhmeidbjigaaa
open Go.RowKit

/-- A list of words that is read. -/
def RdWords (w : World) (v : Value) (l : List Int) : Prop :=
  ∃ ao cap, v = .slice ao l.length cap ∧ l.length ≤ 9223372036854775807 ∧ ∀ i, i < l.length → ∃ b off, ao = some ⟨b, off, none⟩ ∧ w.cell? ⟨b, off + i, none⟩ = some (.int .i64 (l.getD i 0))

theorem RdWords.keep {w w' : World} {v : Value} {l : List Int} (h : RdWords w v l) (hb : Below w.heap.size w w') : RdWords w' v l := by
  obtain ⟨ao, cap, rfl, hl, hc⟩ := h
  exact ⟨ao, cap, rfl, hl, fun i hi => let ⟨b, off, e, h1⟩ := hc i hi; ⟨b, off, e, cell_keep hb h1⟩⟩

theorem rdWords_nil (w : World) : RdWords w (.slice none 0 0) [] := ⟨none, 0, rfl, by simp, fun i hi => by simp at hi⟩

end Go.Proofs.Ytblhmeidbjigaaa

/- Lists copied. -/
set_option linter.unusedSimpArgs false
set_option linter.unusedVariables false
namespace Go.Proofs.Ytblhmeidbjigaaa
open Go.RowKit

theorem ints_take {l : List Int} {k : Nat} (h : k < l.length) : ints (l.take (k + 1)) = ints (l.take k) ++ [.int .i64 (l.getD k 0)] := by
  rw [take_getD l 0 k h, ints_snoc]

theorem int_one (x : Int) : ∀ u ∈ [Value.int .i64 x], u.oneCell' = true := by
  intro u hu; simp at hu; subst hu; rfl

set_option maxRecDepth 100000 in
set_option maxHeartbeats 2000000 in
theorem copied_cps (v : Value) (l : List Int) (w : World) (hr : RdWords w v l) (hn : l.length ≤ 1000) (Post : Ending → World → Prop)
    (hp : ∀ v' w', w'.ownsRow w.heap.size 3 1 v' l.length (ints l) → Below w.heap.size w w' → Post (.returned v') w') :
    Calls Try.prog 93 #[v] w Post := by
  obtain ⟨ao, cap, rfl, hll, hc⟩ := hr
  obtain ⟨i0, ii, iz0, iz1, iz2⟩ := info_parts Try.infoInt
  go_enter Try.func93, Try.ntmps93
  go_wp2
  go_loopw [3, 4] (fun o i wr => ∃ (k : Nat), k ≤ l.length ∧ i = .int .i64 k ∧ wr.ownsRow w.heap.size 3 1 o k (ints (l.take k)) ∧ Below w.heap.size w wr)
    (fun _ i _ => l.length - (intOf i).toNat)
  case atStart => exact ⟨0, Nat.zero_le _, rfl, World.ownsRow_nil _ _ _ _, Below.refl _ _⟩
  case round =>
    obtain ⟨k, hk, rfl, hown, hbel⟩ := hrel
    obtain ⟨lo, lc, rfl⟩ := owns_slice hown
    have hz := hbel.size
    by_cases hlt : k < l.length
    · obtain ⟨b, off, rfl, h1⟩ := hc k hlt
      have h2 := cell_keep hbel h1
      have HT : Hid (ints (l.take (k + 1)) = ints (l.take k) ++ [.int .i64 (l.getD k 0)]) := ints_take hlt
      clear h1
      generalize l.getD k 0 = x at *
      go_wp2_with (at_builtin; refine wpList_append_own _ rfl _ _ 36 rfl w.heap.size 3 i0 (.int .i64 0) 1 8 Try.underlying36 ii iz0 iz1 iz2 rfl (by decide) _ _ _ rfl (hown.alloc _) ⟨wr.heap.size, 0, none⟩ 1 1 [.int .i64 x] rfl rfl ?c1 (int_one _) ?c3 ?c4 ?c5 ?_)
      case c1 => exact one_new wr _ _
      case c3 => unfold maxLen; omega
      case c4 => omega
      case c5 => simp; omega
      intro v' w3 hown' hgrow _
      rw [← HT.out] at hown'
      have hb3 := (hbel.alloc hz (.cells #[.int .i64 x] 3)).grown hgrow (by simp; omega) (fun g hg => (hown.lt g hg).1)
      obtain ⟨lo', lc', rfl⟩ := owns_slice hown'
      clear hgrow hown h2 hbel HT
      go_wp2
      go_roundw
      case rel => exact ⟨k + 1, by omega, by go_num, hown', hb3⟩
      case measure => simp [intOf]; omega
    · obtain rfl : k = l.length := by omega
      rw [List.take_length] at hown
      have HF : Hid (Post (.returned (.slice lo l.length lc)) wr) := hp _ _ hown hbel
      clear hp hown hbel hc
      go_wp2
      exact HF.out

def zMach : List Value := [.slice none 0 0, .slice none 0 0, .slice none 0 0, .slice none 0 0, .int .i64 0]

/-- The registers as a run begins. -/
def regs0 (args : List Int) (n : Nat) : List Int := args ++ List.replicate n 0

theorem regs0_snoc (args : List Int) (n : Nat) : ints (regs0 args (n + 1)) = ints (regs0 args n) ++ [.int .i64 0] := by
  unfold regs0
  rw [List.replicate_succ', ← List.append_assoc, ints_snoc]

theorem regs0_length (args : List Int) (n : Nat) : (regs0 args n).length = args.length + n := by simp [regs0]

end Go.Proofs.Ytblhmeidbjigaaa

/- The machine begins: lists of its own. -/
set_option linter.unusedSimpArgs false
set_option linter.unusedVariables false
namespace Go.Proofs.Ytblhmeidbjigaaa
open Go.RowKit

set_option maxRecDepth 100000 in
set_option maxHeartbeats 400000 in
theorem begin_cps (r a2 a3 : Int) (pv av mv sv : Value) (args mem spill : List Int) (w : World) (ha : RdWords w av args) (hm : RdWords w mv mem) (hs : RdWords w sv spill) (hla : (args.length : Int) ≤ r) (hr : r ≤ 8) (hlm : mem.length ≤ 8) (hls : spill.length ≤ 8) (hpv : ∃ po pn pc, pv = .slice po pn pc) (Post : Ending → World → Prop)
    (hp : ∀ rv cv sv w', Bunch (fun g => g < w.heap.size) w' rv cv sv (.slice none 0 0) ⟨regs0 args (r - args.length).toNat, mem, spill, [], 0⟩ → Below w.heap.size w w' → Post (.returned (.agg #[rv, cv, sv, .slice none 0 0, .int .i64 0])) w') :
    Calls Try.prog 82 #[.agg #[.int .i64 args.length, .int .i64 r, .int .i64 a2, .int .i64 a3, pv], .agg #[av, mv, sv]] w Post := by
  obtain ⟨i0, ii, iz0, iz1, iz2⟩ := info_parts Try.infoInt
  obtain ⟨po, pn, pc, rfl⟩ := hpv
  obtain ⟨ao, ac, rfl, _, _⟩ := id ha
  obtain ⟨mo, mc, rfl, _, _⟩ := id hm
  obtain ⟨so, sc, rfl, _, _⟩ := id hs
  obtain ⟨W, hW⟩ : ∃ W, W = ((w.alloc (.cells #[.int .i64 args.length, .int .i64 r, .int .i64 a2, .int .i64 a3, .slice po pn pc] 24)).alloc (.cells #[.slice ao args.length ac, .slice mo mem.length mc, .slice so spill.length sc] 52)).alloc (.cells #[.slice none 0 0, .slice none 0 0, .slice none 0 0, .slice none 0 0, .int .i64 0] 123) := ⟨_, rfl⟩
  have hzW : w.heap.size + 3 ≤ W.heap.size := by rw [hW]; simp
  have rP : Row W w.heap.size 24 [.int .i64 args.length, .int .i64 r, .int .i64 a2, .int .i64 a3, .slice po pn pc] := by
    rw [hW]
    have q : Row (w.alloc (.cells #[.int .i64 args.length, .int .i64 r, .int .i64 a2, .int .i64 a3, .slice po pn pc] 24)) w.heap.size 24 [.int .i64 args.length, .int .i64 r, .int .i64 a2, .int .i64 a3, .slice po pn pc] := heap_alloc_new w _
    exact (q.alloc _).alloc _
  have rI : Row W (w.heap.size + 1) 52 [.slice ao args.length ac, .slice mo mem.length mc, .slice so spill.length sc] := by
    rw [hW]
    have q : Row ((w.alloc (.cells #[.int .i64 args.length, .int .i64 r, .int .i64 a2, .int .i64 a3, .slice po pn pc] 24)).alloc (.cells #[.slice ao args.length ac, .slice mo mem.length mc, .slice so spill.length sc] 52)) (w.heap.size + 1) 52 [.slice ao args.length ac, .slice mo mem.length mc, .slice so spill.length sc] := heap_alloc2_new w _ _
    exact q.alloc _
  have rR : Row W (w.heap.size + 2) 123 zMach := by
    rw [hW]
    have q := heap_alloc2_new (w.alloc (.cells #[.int .i64 args.length, .int .i64 r, .int .i64 a2, .int .i64 a3, .slice po pn pc] 24)) (.cells #[.slice ao args.length ac, .slice mo mem.length mc, .slice so spill.length sc] 52) (.cells #[.slice none 0 0, .slice none 0 0, .slice none 0 0, .slice none 0 0, .int .i64 0] 123)
    simp only [World.size_alloc] at q
    exact q
  have hbW : Below w.heap.size w W := by rw [hW]; exact (((Below.refl w.heap.size w).alloc (Nat.le_refl _) _).alloc (by simp) _).alloc (by simp; omega) _
  have x0 := rI.cell (i := 0) rfl
  go_enter Try.func82, Try.ntmps82
  go_wp2_with fail
  rw [← hW]
  clear hW
  refine copied_cps _ args W (ha.keep hbW) (by omega) _ ?_
  intro rv0 w1 own1 hb1
  obtain ⟨ro0, rc0, rfl⟩ := owns_slice own1
  have p0 := (rP.keep hb1).cell (i := 0) rfl
  clear x0
  go_wp2
  go_loopw [5, 6] (fun o i wr => ∃ (j : Nat), (args.length : Int) + j ≤ r ∧ i = .int .i64 ((args.length + j : Nat) : Int) ∧ wr.ownsRow W.heap.size 3 1 o (args.length + j) (ints (regs0 args j)) ∧ Below W.heap.size W wr)
    (fun _ i _ => r.toNat - (intOf i).toNat)
  case atStart => exact ⟨0, by omega, by simp, by simpa [regs0] using own1, hb1⟩
  case round =>
    clear own1 hb1 p0 w1
    obtain ⟨j, hj, rfl, own, hbel⟩ := hrel
    obtain ⟨lo, lc, rfl⟩ := owns_slice own
    have hz := hbel.size
    have p1 := (rP.keep hbel).cell (i := 1) rfl
    by_cases hlt : (args.length : Int) + j < r
    · have HT : Hid (ints (regs0 args (j + 1)) = ints (regs0 args j) ++ [.int .i64 0]) := regs0_snoc args j
      go_wp2_with (at_builtin; refine wpList_append_own _ rfl _ _ 36 rfl W.heap.size 3 i0 (.int .i64 0) 1 8 Try.underlying36 ii iz0 iz1 iz2 rfl (by decide) _ _ _ rfl (own.alloc _) ⟨wr.heap.size, 0, none⟩ 1 1 [.int .i64 0] rfl rfl ?c1 (int_one _) ?c3 ?c4 ?c5 ?_)
      case c1 => exact one_new wr _ _
      case c3 => unfold maxLen; omega
      case c4 => omega
      case c5 => simp; omega
      intro v' w3 hown' hgrow _
      rw [← HT.out] at hown'
      have hb3 := (hbel.alloc hz (.cells #[.int .i64 0] 3)).grown hgrow (by simp; omega) (fun g hg => (own.lt g hg).1)
      obtain ⟨lo', lc', rfl⟩ := owns_slice hown'
      clear hgrow own hbel HT p1
      go_wp2
      go_roundw
      case rel => exact ⟨j + 1, by omega, by go_num, hown', hb3⟩
      case measure => simp [intOf]; omega
    · have hje : j = (r - args.length).toNat := by omega
      rw [← hje] at hp
      have hjl : args.length + j ≤ 8 := by omega
      clear hje
      have rIr := rI.keep hbel
      have rRr := rR.keep hbel
      have hmk : ∀ w', Keep (fun g => g = w.heap.size + 2) wr w' → RdWords w' (.slice mo mem.length mc) mem := fun w' hk => hm.keep (hbW.trans ((hbel.mono (by omega)).trans (hk.toBelow (by omega) (fun g hg => by omega))))
      have hsk : ∀ w', Keep (fun g => g = w.heap.size + 2) wr w' → RdWords w' (.slice so spill.length sc) spill := fun w' hk => hs.keep (hbW.trans ((hbel.mono (by omega)).trans (hk.toBelow (by omega) (fun g hg => by omega))))
      have q1 : ∀ w', Keep (fun g => g = w.heap.size + 2) wr w' → w'.cell? ⟨w.heap.size + 1, 1, none⟩ = some (.slice mo mem.length mc) := fun w' hk => hk.cell (by show ¬ (w.heap.size + 1 = w.heap.size + 2); omega) (rIr.cell (i := 1) rfl)
      have q2 : ∀ w', Keep (fun g => g = w.heap.size + 2) wr w' → w'.cell? ⟨w.heap.size + 1, 2, none⟩ = some (.slice so spill.length sc) := fun w' hk => hk.cell (by show ¬ (w.heap.size + 1 = w.heap.size + 2); omega) (rIr.cell (i := 2) rfl)
      have rRd : Row wr.drew (w.heap.size + 2) 123 zMach := rRr.keep ((Below.refl _ _).drew)
      have kd : Keep (fun g => g = w.heap.size + 2) wr wr.drew := (Keep.refl _ _).below ((Below.refl wr.heap.size wr).drew) (Nat.le_refl _)
      clear rIr
      go_wp2
      go_region_held3 (fun w' => Keep (fun g => g = w.heap.size + 2) wr w') (first | with_reducible exact kwm | with_reducible exact kws | with_reducible exact kd | with_reducible exact ((((kws.setCell (p := ⟨w.heap.size + 2, 0, none⟩) (.inl rfl) _).setCell (p := ⟨w.heap.size + 2, 1, none⟩) (.inl rfl) _).setCell (p := ⟨w.heap.size + 2, 2, none⟩) (.inl rfl) _).setCell (p := ⟨w.heap.size + 2, 3, none⟩) (.inl rfl) _).setCell (p := ⟨w.heap.size + 2, 4, none⟩) (.inl rfl) _ | with_reducible exact ((((kwm.setCell (p := ⟨w.heap.size + 2, 0, none⟩) (.inl rfl) _).setCell (p := ⟨w.heap.size + 2, 1, none⟩) (.inl rfl) _).setCell (p := ⟨w.heap.size + 2, 2, none⟩) (.inl rfl) _).setCell (p := ⟨w.heap.size + 2, 3, none⟩) (.inl rfl) _).setCell (p := ⟨w.heap.size + 2, 4, none⟩) (.inl rfl) _) (first | (go_at_call 93; with_reducible refine copied_cps (.slice mo mem.length mc) mem wr.drew (hmk _ kd) (by omega) _ ?_; intro cv wm ownm hbm; obtain ⟨co, cc, rfl⟩ := owns_slice ownm; have kwm := kd.below hbm kd.size; have rRm := rRd.keep hbm; have z0 := rRm.cell (i := 0) rfl; have f0 := rRm.frozen 0; have z1 := rRm.cell (i := 1) rfl; have f1 := rRm.frozen 1; have z2 := rRm.cell (i := 2) rfl; have f2 := rRm.frozen 2; have z3 := rRm.cell (i := 3) rfl; have f3 := rRm.frozen 3; have z4 := rRm.cell (i := 4) rfl; have f4 := rRm.frozen 4) | (go_at_call 93; with_reducible refine copied_cps (.slice so spill.length sc) spill wm (hsk _ kwm) (by omega) _ ?_; intro sv ws owns hbs; obtain ⟨so', sc', rfl⟩ := owns_slice owns; have kws := kwm.below hbs kwm.size; have rRs := rRm.keep hbs; have y0 := rRs.cell (i := 0) rfl; have e0 := rRs.frozen 0; have y1 := rRs.cell (i := 1) rfl; have e1 := rRs.frozen 1; have y2 := rRs.cell (i := 2) rfl; have e2 := rRs.frozen 2; have y3 := rRs.cell (i := 3) rfl; have e3 := rRs.frozen 3; have y4 := rRs.cell (i := 4) rfl; have e4 := rRs.frozen 4) | (go_at_call 93; with_reducible refine copied_cps (.slice so spill.length sc) spill wr.drew (hsk _ kd) (by omega) _ ?_; intro sv ws owns hbs; obtain ⟨so', sc', rfl⟩ := owns_slice owns; have kws := kd.below hbs kd.size; have rRs := rRd.keep hbs; have y0 := rRs.cell (i := 0) rfl; have e0 := rRs.frozen 0; have y1 := rRs.cell (i := 1) rfl; have e1 := rRs.frozen 1; have y2 := rRs.cell (i := 2) rfl; have e2 := rRs.frozen 2; have y3 := rRs.cell (i := 3) rfl; have e3 := rRs.frozen 3; have y4 := rRs.cell (i := 4) rfl; have e4 := rRs.frozen 4) | (go_at_call 93; with_reducible refine copied_cps (.slice mo mem.length mc) mem ws (hmk _ kws) (by omega) _ ?_; intro cv wm ownm hbm; obtain ⟨co, cc, rfl⟩ := owns_slice ownm; have kwm := kws.below hbm kws.size; have rRm := rRs.keep hbm; have z0 := rRm.cell (i := 0) rfl; have f0 := rRm.frozen 0; have z1 := rRm.cell (i := 1) rfl; have f1 := rRm.frozen 1; have z2 := rRm.cell (i := 2) rfl; have f2 := rRm.frozen 2; have z3 := rRm.cell (i := 3) rfl; have f3 := rRm.frozen 3; have z4 := rRm.cell (i := 4) rfl; have f4 := rRm.frozen 4))
      · have hzm := hbm.size
        have hzs := hbs.size
        have hzd : wr.drew.heap.size = wr.heap.size := rfl
        have ownr : ws.ownsRow W.heap.size 3 1 (.slice lo (args.length + j) lc) (args.length + j) (ints (regs0 args j)) := owns_below (owns_below (w := wr.drew) own hbm (Nat.le_refl _)) hbs (Nat.le_refl _)
        have ownc := owns_below ownm hbs (Nat.le_refl _)
        have owns2 := owns
        have apc : ∀ g, (Value.slice lo (args.length + j) lc).ownBlock = some g → (Value.slice co mem.length cc).ownBlock ≠ some g := fun g e e2 => by have q1 := (own.lt g e).2; have q2 := (ownm.lt g e2).1; omega
        have aps : ∀ g, (Value.slice lo (args.length + j) lc).ownBlock = some g → (Value.slice so' spill.length sc').ownBlock ≠ some g := fun g e e2 => by have q1 := (own.lt g e).2; have q2 := (owns.lt g e2).1; omega
        have acs : ∀ g, (Value.slice co mem.length cc).ownBlock = some g → (Value.slice so' spill.length sc').ownBlock ≠ some g := fun g e e2 => by have q1 := (ownm.lt g e).2; have q2 := (owns.lt g e2).1; omega
        have gec : ∀ g, (Value.slice co mem.length cc).ownBlock = some g → W.heap.size ≤ g := fun g e => by have q2 := (ownm.lt g e).1; omega
        have ges : ∀ g, (Value.slice so' spill.length sc').ownBlock = some g → W.heap.size ≤ g := fun g e => by have q2 := (owns.lt g e).1; omega
        have ger : ∀ g, (Value.slice lo (args.length + j) lc).ownBlock = some g → W.heap.size ≤ g := fun g e => (own.lt g e).1
        have hzl := kws.size
        have hB0 : Bunch (fun g => g < w.heap.size) ws (.slice lo (args.length + j) lc) (.slice co mem.length cc) (.slice so' spill.length sc') (.slice none 0 0) ⟨regs0 args j, mem, spill, [], 0⟩ :=
          ⟨by show World.ownsRow _ _ _ _ _ _ _; simp only [regs0_length]; exact owns_base ownr (Nat.zero_le _), owns_base ownc (Nat.zero_le _), owns_base owns2 (Nat.zero_le _), World.ownsRow_nil _ _ _ _, apc, aps, (fun g _ e2 => by simp [Value.ownBlock] at e2), acs, (fun g _ e2 => by simp [Value.ownBlock] at e2), (fun g _ e2 => by simp [Value.ownBlock] at e2),
            (fun g e c => by have := ger g e; omega), (fun g e c => by have := gec g e; omega), (fun g e c => by have := ges g e; omega), (fun g e c => by simp [Value.ownBlock] at e), (fun g c => by omega)⟩
        have hB5 := ((((hB0.far rRs (by decide) 0 (.slice lo (args.length + j) lc)).far (rRs.set 0 _) (by decide) 1 (.slice co mem.length cc)).far ((rRs.set 0 _).set 1 _) (by decide) 2 (.slice so' spill.length sc')).far (((rRs.set 0 _).set 1 _).set 2 _) (by decide) 3 (.slice none 0 0)).far ((((rRs.set 0 _).set 1 _).set 2 _).set 3 _) (by decide) 4 (.int .i64 0)
        have hK5 := ((((kws.setCell (p := ⟨w.heap.size + 2, 0, none⟩) (.inl rfl) (.slice lo (args.length + j) lc)).setCell (p := ⟨w.heap.size + 2, 1, none⟩) (.inl rfl) (.slice co mem.length cc)).setCell (p := ⟨w.heap.size + 2, 2, none⟩) (.inl rfl) (.slice so' spill.length sc')).setCell (p := ⟨w.heap.size + 2, 3, none⟩) (.inl rfl) (.slice none 0 0)).setCell (p := ⟨w.heap.size + 2, 4, none⟩) (.inl rfl) (.int .i64 0)
        have hb5 := (hbW.trans (hbel.mono (by omega))).trans (hK5.toBelow (B := w.heap.size) (by omega) (fun g hg => by omega))
        have HF := hp _ _ _ _ hB5 hb5
        clear hp hB0 hB5 hK5 hb5 own ownm owns ownr ownc owns2 apc aps acs gec ges ger rP rI rR rRr rRd rRm rRs hbm hbs kwm kws kd hbel hbW
        have HF' : Hid _ := HF
        clear HF
        go_wp2
        (try simp only [Exit.inBlock, Exit.then])
        refine bodyPost_ret (v := .agg #[.slice lo (args.length + j) lc, .slice co mem.length cc, .slice so' spill.length sc', .slice none 0 0, .int .i64 0]) ?_ rfl ?_
        · simp [results, Try.results82, go_sem, y0, y1, y2, y3, y4]
        · simp only [show w.heap.size + 1 + 1 = w.heap.size + 2 from rfl]
          with_reducible exact HF'.out

end Go.Proofs.Ytblhmeidbjigaaa

/- What Run answers, pure. -/
set_option linter.unusedSimpArgs false
set_option linter.unusedVariables false
namespace Go.Proofs.Ytblhmeidbjigaaa
open Go.RowKit

def outZ : OutD := ⟨0, 0, [], []⟩

def fits (p : ProgD) (args mem spill : List Int) : Prop := (args.length : Int) = p.args ∧ (mem.length : Int) = p.data ∧ (spill.length : Int) = p.slots

def begins (p : ProgD) (args mem spill : List Int) : RunD := ⟨regs0 args (p.regs - args.length).toNat, mem, spill, [], 0⟩

/-- The document's answer: the outcome and the error. -/
def RunAns (s : ByteArray) (args mem spill : List Int) (fuel : Int) (o : OutD) (e : Int) : Prop :=
  (e = 1 ∧ o = outZ ∧ ∀ p, progGood p = true → str (progText p) ≠ s) ∨
  ∃ p, progGood p = true ∧ str (progText p) = s ∧
    ((e = 3 ∧ o = outZ ∧ ¬ fits p args mem spill) ∨ (e = 4 ∧ o = outZ ∧ fits p args mem spill ∧ ¬ (0 ≤ fuel ∧ fuel ≤ 300)) ∨
      (e = 0 ∧ fits p args mem spill ∧ (0 ≤ fuel ∧ fuel ≤ 300) ∧ o = runN p.blocks fuel.toNat 0 (begins p args mem spill)))

theorem RunAns.one {s : ByteArray} {args mem spill : List Int} {fuel : Int} {o o' : OutD} {e e' : Int} (h : RunAns s args mem spill fuel o e) (h' : RunAns s args mem spill fuel o' e') : o = o' ∧ e = e' := by
  rcases h with ⟨rfl, rfl, h1⟩ | ⟨p, hg, ht, h1⟩
  · rcases h' with ⟨rfl, rfl, _⟩ | ⟨q, hg, ht, _⟩
    · exact ⟨rfl, rfl⟩
    · exact absurd ht (h1 q hg)
  · rcases h' with ⟨rfl, rfl, h2⟩ | ⟨q, hg', ht', h2⟩
    · exact absurd ht (h2 p hg)
    · obtain rfl : p = q := prog_one hg hg' (ht.trans ht'.symm)
      rcases h1 with ⟨rfl, rfl, a⟩ | ⟨rfl, rfl, a, b⟩ | ⟨rfl, a, b, rfl⟩
      · rcases h2 with ⟨rfl, rfl, _⟩ | ⟨_, _, c, _⟩ | ⟨_, c, _, _⟩
        · exact ⟨rfl, rfl⟩
        · exact absurd c a
        · exact absurd c a
      · rcases h2 with ⟨_, _, c⟩ | ⟨rfl, rfl, _, _⟩ | ⟨_, _, c, _⟩
        · exact absurd a c
        · exact ⟨rfl, rfl⟩
        · exact absurd c b
      · rcases h2 with ⟨_, _, c⟩ | ⟨_, _, _, c⟩ | ⟨rfl, _, _, rfl⟩
        · exact absurd a c
        · exact absurd b c
        · exact ⟨rfl, rfl⟩

theorem owns_rebase {w : World} {B : Nat} {e : TypeId} {sz : Nat} {v : Value} {n : Nat} {xs : List Value} (h : w.ownsRow 0 e sz v n xs) (hB : ∀ g, v.ownBlock = some g → B ≤ g) : w.ownsRow B e sz v n xs := by
  refine ⟨h.1, ?_⟩
  rcases h.2 with h2 | ⟨g, cap, cur, rfl, hg, r⟩
  · exact .inl h2
  · exact .inr ⟨g, cap, cur, rfl, hB g rfl, r⟩

/-- What comes out of Run. -/
structure RunOut (w w' : World) (o : OutD) (mv lv : Value) : Prop where
  mem : w'.ownsRow w.heap.size 3 1 mv o.mem.length (ints o.mem)
  leak : w'.ownsRow w.heap.size 3 1 lv o.leak.length (ints o.leak)
  apart : ∀ g, mv.ownBlock = some g → lv.ownBlock ≠ some g
  below : Below w.heap.size w w'

theorem out4_below {B : Nat} {w w' : World} (h : Below B w w') {R : Nat} (hR : B ≤ R) (k r : Int) (m l : Value) : Below B w (out4 w' R k r m l) :=
  (((h.setCell hR _).setCell hR _).setCell hR _).setCell hR _

theorem runOut_nil {w w' : World} (h : Below w.heap.size w w') : RunOut w w' outZ (.slice none 0 0) (.slice none 0 0) :=
  ⟨World.ownsRow_nil _ _ _ _, World.ownsRow_nil _ _ _ _, fun g e => by simp [Value.ownBlock] at e, h⟩

theorem begins_sized {p : ProgD} {args mem spill : List Int} (hg : progGood p = true) (h : fits p args mem spill) : Sized (begins p args mem spill) p.regs p.data p.slots := by
  simp only [progGood, Bool.and_eq_true, decide_eq_true_eq] at hg
  obtain ⟨h1, h2, h3⟩ := h
  refine ⟨?_, h2, h3⟩
  show ((regs0 args (p.regs - args.length).toNat).length : Int) = p.regs
  rw [regs0_length]
  omega

end Go.Proofs.Ytblhmeidbjigaaa

/- Run in package machine. -/
set_option linter.unusedSimpArgs false
set_option linter.unusedVariables false
namespace Go.Proofs.Ytblhmeidbjigaaa
open Go.RowKit

set_option maxRecDepth 100000 in
set_option maxHeartbeats 2000000 in
theorem mRun_cps (s : ByteArray) (av mv sv : Value) (args mem spill : List Int) (fuel : Int) (w : World) (ha : RdWords w av args) (hm : RdWords w mv mem) (hsp : RdWords w sv spill) (hs : s.size ≤ maxLen) (Post : Ending → World → Prop)
    (hp : ∀ o e mv lv w', RunAns s args mem spill fuel o e → RunOut w w' o mv lv → Post (.returned (.tuple #[.agg #[.int .i64 o.kind, .int .i64 o.result, mv, lv], .int .i64 e])) w') :
    Calls Try.prog 59 #[.string s, .agg #[av, mv, sv], .int .i64 fuel] w Post := by
  obtain ⟨ao, ac, rfl, hal, _⟩ := id ha
  obtain ⟨mo, mc, rfl, hml, _⟩ := id hm
  obtain ⟨so, sc, rfl, hsl, _⟩ := id hsp
  have hc := cDecode_any s ((w.alloc (.cells #[.slice ao args.length ac, .slice mo mem.length mc, .slice so spill.length sc] 52)).alloc (.cells #[.int .i64 0, .int .i64 0, .slice none 0 0, .slice none 0 0] 54)) hs
  have rI : Row ((w.alloc (.cells #[.slice ao args.length ac, .slice mo mem.length mc, .slice so spill.length sc] 52)).alloc (.cells #[.int .i64 0, .int .i64 0, .slice none 0 0, .slice none 0 0] 54)) w.heap.size 52 [.slice ao args.length ac, .slice mo mem.length mc, .slice so spill.length sc] := by
    have q : Row (w.alloc (.cells #[.slice ao args.length ac, .slice mo mem.length mc, .slice so spill.length sc] 52)) w.heap.size 52 [.slice ao args.length ac, .slice mo mem.length mc, .slice so spill.length sc] := heap_alloc_new w _
    exact q.alloc _
  have rO : Row ((w.alloc (.cells #[.slice ao args.length ac, .slice mo mem.length mc, .slice so spill.length sc] 52)).alloc (.cells #[.int .i64 0, .int .i64 0, .slice none 0 0, .slice none 0 0] 54)) (w.heap.size + 1) 54 zOut := heap_alloc2_new w _ _
  have hbW : Below w.heap.size w ((w.alloc (.cells #[.slice ao args.length ac, .slice mo mem.length mc, .slice so spill.length sc] 52)).alloc (.cells #[.int .i64 0, .int .i64 0, .slice none 0 0, .slice none 0 0] 54)) := ((Below.refl w.heap.size w).alloc (Nat.le_refl _) _).alloc (by simp) _
  go_enter Try.func59, Try.ntmps59
  go_wp2_with fail
  refine hc.mono ?_
  clear hc
  rintro e w1 ⟨hor, hb1⟩
  have rI1 := rI.keep hb1
  have rO1 := rO.keep hb1
  have hb01 := hbW.trans (hb1.mono (by simp; omega))
  have hz1 : w.heap.size + 2 ≤ w1.heap.size := by have := hb1.size; simp at this; omega
  clear rI rO hbW
  rcases hor with ⟨⟨a0, a1, a2, a3, l⟩, v, bv, rfl, ho, hd, hg, ht⟩ | ⟨hn, rfl⟩
  · simp only at hd
    obtain ⟨bo, bc, rfl⟩ := owns_slice ho.row
    unfold progV
    simp only
    have ho2 := ho.alloc (.cells #[.int .i64 a0, .int .i64 a1, .int .i64 a2, .int .i64 a3, .slice bo bv.length bc] 24)
    have rI2 := rI1.alloc (.cells #[.int .i64 a0, .int .i64 a1, .int .i64 a2, .int .i64 a3, .slice bo bv.length bc] 24)
    have rO2 := rO1.alloc (.cells #[.int .i64 a0, .int .i64 a1, .int .i64 a2, .int .i64 a3, .slice bo bv.length bc] 24)
    have rP2 : Row (w1.alloc (.cells #[.int .i64 a0, .int .i64 a1, .int .i64 a2, .int .i64 a3, .slice bo bv.length bc] 24)) w1.heap.size 24 [.int .i64 a0, .int .i64 a1, .int .i64 a2, .int .i64 a3, .slice bo bv.length bc] := heap_alloc_new w1 _
    have hb02 := hb01.alloc (show w.heap.size ≤ w1.heap.size by omega) (.cells #[.int .i64 a0, .int .i64 a1, .int .i64 a2, .int .i64 a3, .slice bo bv.length bc] 24)
    clear ho rI1 rO1 hb01 hb1
    have i0 := rI2.cell (i := 0) rfl
    have i1 := rI2.cell (i := 1) rfl
    have i2 := rI2.cell (i := 2) rfl
    have p0 := rP2.cell (i := 0) rfl
    have p1 := rP2.cell (i := 1) rfl
    have p2 := rP2.cell (i := 2) rfl
    have p3 := rP2.cell (i := 3) rfl
    have p4 := rP2.cell (i := 4) rfl
    have y0 := rO2.cell (i := 0) rfl
    have y1 := rO2.cell (i := 1) rfl
    have y2 := rO2.cell (i := 2) rfl
    have y3 := rO2.cell (i := 3) rfl
    have f0 := rO2.frozen 0
    have f1 := rO2.frozen 1
    have f2 := rO2.frozen 2
    have f3 := rO2.frozen 3
    by_cases h0 : (args.length : Int) = a0
    case neg =>
      have e0 : ((args.length : Int) == a0) = false := by simp [h0]
      have hfin := hp outZ 3 (.slice none 0 0) (.slice none 0 0) (out4 (w1.alloc (.cells #[.int .i64 a0, .int .i64 a1, .int .i64 a2, .int .i64 a3, .slice bo bv.length bc] 24)) (w.heap.size + 1) 0 0 (.slice none 0 0) (.slice none 0 0)) (.inr ⟨⟨a0, a1, a2, a3, l⟩, hg, ht, .inl ⟨rfl, rfl, fun c => h0 c.1⟩⟩) (runOut_nil (out4_below hb02 (by omega) _ _ _ _))
      have HF : Hid (Post (.returned (.tuple #[.agg #[.int .i64 0, .int .i64 0, .slice none 0 0, .slice none 0 0], .int .i64 3])) (out4 (w1.alloc (.cells #[.int .i64 a0, .int .i64 a1, .int .i64 a2, .int .i64 a3, .slice bo bv.length bc] 24)) (w.heap.size + 1) 0 0 (.slice none 0 0) (.slice none 0 0))) := hfin
      clear hfin hp ho2 rI2 rO2 rP2 hb02
      unfold out4 at HF
      go_wp2
      (try simp only [Exit.inBlock, Exit.then])
      refine bodyPost_ret (v := .tuple #[.agg #[.int .i64 0, .int .i64 0, .slice none 0 0, .slice none 0 0], .int .i64 3]) ?_ rfl ?_
      · simp [results, Try.results59, go_sem, y0, y1, y2, y3]
      · exact HF.out
    by_cases h2 : (mem.length : Int) = a2
    case neg =>
      have e0 : ((args.length : Int) == a0) = true := by simp [h0]
      have e2 : ((mem.length : Int) == a2) = false := by simp [h2]
      have hfin := hp outZ 3 (.slice none 0 0) (.slice none 0 0) (out4 (w1.alloc (.cells #[.int .i64 a0, .int .i64 a1, .int .i64 a2, .int .i64 a3, .slice bo bv.length bc] 24)) (w.heap.size + 1) 0 0 (.slice none 0 0) (.slice none 0 0)) (.inr ⟨⟨a0, a1, a2, a3, l⟩, hg, ht, .inl ⟨rfl, rfl, fun c => h2 c.2.1⟩⟩) (runOut_nil (out4_below hb02 (by omega) _ _ _ _))
      have HF : Hid (Post (.returned (.tuple #[.agg #[.int .i64 0, .int .i64 0, .slice none 0 0, .slice none 0 0], .int .i64 3])) (out4 (w1.alloc (.cells #[.int .i64 a0, .int .i64 a1, .int .i64 a2, .int .i64 a3, .slice bo bv.length bc] 24)) (w.heap.size + 1) 0 0 (.slice none 0 0) (.slice none 0 0))) := hfin
      clear hfin hp ho2 rI2 rO2 rP2 hb02
      unfold out4 at HF
      go_wp2
      (try simp only [Exit.inBlock, Exit.then])
      refine bodyPost_ret (v := .tuple #[.agg #[.int .i64 0, .int .i64 0, .slice none 0 0, .slice none 0 0], .int .i64 3]) ?_ rfl ?_
      · simp [results, Try.results59, go_sem, y0, y1, y2, y3]
      · exact HF.out
    by_cases h3 : (spill.length : Int) = a3
    case neg =>
      have e0 : ((args.length : Int) == a0) = true := by simp [h0]
      have e2 : ((mem.length : Int) == a2) = true := by simp [h2]
      have e3 : ((spill.length : Int) == a3) = false := by simp [h3]
      have hfin := hp outZ 3 (.slice none 0 0) (.slice none 0 0) (out4 (w1.alloc (.cells #[.int .i64 a0, .int .i64 a1, .int .i64 a2, .int .i64 a3, .slice bo bv.length bc] 24)) (w.heap.size + 1) 0 0 (.slice none 0 0) (.slice none 0 0)) (.inr ⟨⟨a0, a1, a2, a3, l⟩, hg, ht, .inl ⟨rfl, rfl, fun c => h3 c.2.2⟩⟩) (runOut_nil (out4_below hb02 (by omega) _ _ _ _))
      have HF : Hid (Post (.returned (.tuple #[.agg #[.int .i64 0, .int .i64 0, .slice none 0 0, .slice none 0 0], .int .i64 3])) (out4 (w1.alloc (.cells #[.int .i64 a0, .int .i64 a1, .int .i64 a2, .int .i64 a3, .slice bo bv.length bc] 24)) (w.heap.size + 1) 0 0 (.slice none 0 0) (.slice none 0 0))) := hfin
      clear hfin hp ho2 rI2 rO2 rP2 hb02
      unfold out4 at HF
      go_wp2
      (try simp only [Exit.inBlock, Exit.then])
      refine bodyPost_ret (v := .tuple #[.agg #[.int .i64 0, .int .i64 0, .slice none 0 0, .slice none 0 0], .int .i64 3]) ?_ rfl ?_
      · simp [results, Try.results59, go_sem, y0, y1, y2, y3]
      · exact HF.out
    subst h0 h2 h3
    by_cases hf0 : fuel < 0
    · have hfin := hp outZ 4 (.slice none 0 0) (.slice none 0 0) (out4 (w1.alloc (.cells #[.int .i64 args.length, .int .i64 a1, .int .i64 mem.length, .int .i64 spill.length, .slice bo bv.length bc] 24)) (w.heap.size + 1) 0 0 (.slice none 0 0) (.slice none 0 0)) (.inr ⟨⟨args.length, a1, mem.length, spill.length, l⟩, hg, ht, .inr (.inl ⟨rfl, rfl, ⟨rfl, rfl, rfl⟩, fun c => by omega⟩)⟩) (runOut_nil (out4_below hb02 (by omega) _ _ _ _))
      have HF : Hid (Post (.returned (.tuple #[.agg #[.int .i64 0, .int .i64 0, .slice none 0 0, .slice none 0 0], .int .i64 4])) (out4 (w1.alloc (.cells #[.int .i64 args.length, .int .i64 a1, .int .i64 mem.length, .int .i64 spill.length, .slice bo bv.length bc] 24)) (w.heap.size + 1) 0 0 (.slice none 0 0) (.slice none 0 0))) := hfin
      clear hfin hp ho2 rI2 rO2 rP2 hb02
      unfold out4 at HF
      go_wp2
      (try simp only [Exit.inBlock, Exit.then])
      refine bodyPost_ret (v := .tuple #[.agg #[.int .i64 0, .int .i64 0, .slice none 0 0, .slice none 0 0], .int .i64 4]) ?_ rfl ?_
      · simp [results, Try.results59, go_sem, y0, y1, y2, y3]
      · exact HF.out
    by_cases hf1 : 300 < fuel
    · have hfin := hp outZ 4 (.slice none 0 0) (.slice none 0 0) (out4 (w1.alloc (.cells #[.int .i64 args.length, .int .i64 a1, .int .i64 mem.length, .int .i64 spill.length, .slice bo bv.length bc] 24)) (w.heap.size + 1) 0 0 (.slice none 0 0) (.slice none 0 0)) (.inr ⟨⟨args.length, a1, mem.length, spill.length, l⟩, hg, ht, .inr (.inl ⟨rfl, rfl, ⟨rfl, rfl, rfl⟩, fun c => by omega⟩)⟩) (runOut_nil (out4_below hb02 (by omega) _ _ _ _))
      have HF : Hid (Post (.returned (.tuple #[.agg #[.int .i64 0, .int .i64 0, .slice none 0 0, .slice none 0 0], .int .i64 4])) (out4 (w1.alloc (.cells #[.int .i64 args.length, .int .i64 a1, .int .i64 mem.length, .int .i64 spill.length, .slice bo bv.length bc] 24)) (w.heap.size + 1) 0 0 (.slice none 0 0) (.slice none 0 0))) := hfin
      clear hfin hp ho2 rI2 rO2 rP2 hb02
      unfold out4 at HF
      go_wp2
      (try simp only [Exit.inBlock, Exit.then])
      refine bodyPost_ret (v := .tuple #[.agg #[.int .i64 0, .int .i64 0, .slice none 0 0, .slice none 0 0], .int .i64 4]) ?_ rfl ?_
      · simp [results, Try.results59, go_sem, y0, y1, y2, y3]
      · exact HF.out
    obtain ⟨fu, rfl⟩ := Int.eq_ofNat_of_zero_le (show 0 ≤ fuel by omega)
    have hgg := hg
    simp only [progGood, Bool.and_eq_true, decide_eq_true_eq] at hgg
    obtain ⟨⟨⟨⟨⟨g1, g2⟩, g3⟩, g4⟩, g5⟩, g6⟩ := hgg
    have hans : RunAns s args mem spill fu (runN l fu 0 (begins ⟨args.length, a1, mem.length, spill.length, l⟩ args mem spill)) 0 := .inr ⟨⟨args.length, a1, mem.length, spill.length, l⟩, hg, ht, .inr (.inr ⟨rfl, ⟨rfl, rfl, rfl⟩, by omega, by simp⟩)⟩
    have hsz := begins_sized (args := args) (mem := mem) (spill := spill) hg ⟨rfl, rfl, rfl⟩
    have hal' := ha.keep hb02
    have hml' := hm.keep hb02
    have hsl' := hsp.keep hb02
    have hrd := OwnBlocks.rd ho2
    rw [hd] at hrd
    obtain ⟨W2, hW2⟩ : ∃ W2, W2 = w1.alloc (.cells #[.int .i64 args.length, .int .i64 a1, .int .i64 mem.length, .int .i64 spill.length, .slice bo bv.length bc] 24) := ⟨_, rfl⟩
    rw [← hW2] at hrd hal' hml' hsl' hb02 rI2 rO2 rP2
    have hz2 : w.heap.size + 3 ≤ W2.heap.size := by rw [hW2]; simp; omega
    clear hg ht ho2 ha hm hsp
    go_wp2_with fail
    rw [← hW2]
    clear hW2 i0 i1 i2 p0 p1 p2 p3 p4 y0 y1 y2 y3 f0 f1 f2 f3
    refine begin_cps a1 mem.length spill.length _ _ _ _ args mem spill W2 hal' hml' hsl' (by omega) (by omega) (by omega) (by omega) ⟨_, _, _, rfl⟩ _ ?_
    intro rv cv sv w3 hB hb3
    obtain ⟨ro, rc, rfl⟩ := owns_slice hB.regs
    obtain ⟨co, cc, rfl⟩ := owns_slice hB.cells
    obtain ⟨so', sc', rfl⟩ := owns_slice hB.slots
    have hz3 := hb3.size
    have hall := (Below.refl w3.heap.size w3).alloc (Nat.le_refl _) (.cells #[.slice ro (regs0 args (a1 - args.length).toNat).length rc, .slice co mem.length cc, .slice so' spill.length sc', .slice none 0 0, .int .i64 0] 123)
    have hM : Mach (fun g => g < W2.heap.size) (w3.alloc (.cells #[.slice ro (regs0 args (a1 - args.length).toNat).length rc, .slice co mem.length cc, .slice so' spill.length sc', .slice none 0 0, .int .i64 0] 123)) w3.heap.size (begins ⟨args.length, a1, mem.length, spill.length, l⟩ args mem spill) :=
      ⟨_, _, _, _, heap_alloc_new w3 _, hB.keep hall, fun c => by omega⟩
    have hb4 : Below W2.heap.size W2 (w3.alloc (.cells #[.slice ro (regs0 args (a1 - args.length).toNat).length rc, .slice co mem.length cc, .slice so' spill.length sc', .slice none 0 0, .int .i64 0] 123)) := hb3.trans (hall.mono (by omega))
    have p4 := (rP2.keep hb4).cell (i := 4) rfl
    have hlz : (begins ⟨args.length, a1, mem.length, spill.length, l⟩ args mem spill).leak = [] := rfl
    have htz : (begins ⟨args.length, a1, mem.length, spill.length, l⟩ args mem spill).trap = 0 := rfl
    generalize begins ⟨args.length, a1, mem.length, spill.length, l⟩ args mem spill = S0 at *
    generalize (regs0 args (a1 - args.length).toNat).length = nr at *
    clear hB hall hal' hml' hsl'
    obtain ⟨w4, hw4⟩ : ∃ w4, w4 = w3.alloc (.cells #[.slice ro nr rc, .slice co mem.length cc, .slice so' spill.length sc', .slice none 0 0, .int .i64 0] 123) := ⟨_, rfl⟩
    rw [← hw4] at hM hb4
    have hz4 := hb4.size
    go_wp2_with fail
    rw [← hw4]
    clear hw4 p4
    refine run_cps (fun g => g < W2.heap.size) w3.heap.size S0 l _ fu a1 mem.length spill.length W2 w4 hM (by omega) hlz htz hsz g6 (by omega) hrd (fun g h => h) hb4 _ ?_
    intro mv' lv' w5 own1 own2 ap k1 k2 hk5
    have hb5 := hb4.trans (hk5.toBelow hz4 (fun g hn => by omega))
    have rO5 := rO2.keep hb5
    have hb05 := hb02.trans (hb5.mono (by omega))
    have hz5 := hb5.size
    generalize runN l fu 0 S0 = G at *
    have hfin := hp G 0 mv' lv' (out4 w5 (w.heap.size + 1) G.kind G.result mv' lv') hans
      ⟨owns_rebase (OwnW.out4 own1 rO5 _ _ _ _) (fun g e => by have := k1 g e; omega), owns_rebase (OwnW.out4 own2 rO5 _ _ _ _) (fun g e => by have := k2 g e; omega), ap, out4_below hb05 (by omega) _ _ _ _⟩
    obtain ⟨mo', mc', rfl⟩ := owns_slice own1
    obtain ⟨lo', lc', rfl⟩ := owns_slice own2
    have HF : Hid (Post (.returned (.tuple #[.agg #[.int .i64 G.kind, .int .i64 G.result, .slice mo' G.mem.length mc', .slice lo' G.leak.length lc'], .int .i64 0])) (out4 w5 (w.heap.size + 1) G.kind G.result (.slice mo' G.mem.length mc') (.slice lo' G.leak.length lc'))) := hfin
    have y0 := rO5.cell (i := 0) rfl
    have y1 := rO5.cell (i := 1) rfl
    have y2 := rO5.cell (i := 2) rfl
    have y3 := rO5.cell (i := 3) rfl
    have f0 := rO5.frozen 0
    have f1 := rO5.frozen 1
    have f2 := rO5.frozen 2
    have f3 := rO5.frozen 3
    clear hfin hp own1 own2 ap k1 k2 hk5 hb5 rO5 hb05 hM hb4 rP2 rI2 rO2 hrd hans
    unfold out4 at HF
    go_wp2
    (try simp only [Exit.inBlock, Exit.then])
    refine bodyPost_ret (v := .tuple #[.agg #[.int .i64 G.kind, .int .i64 G.result, .slice mo' G.mem.length mc', .slice lo' G.leak.length lc'], .int .i64 0]) ?_ rfl ?_
    · simp [results, Try.results59, go_sem, y0, y1, y2, y3]
    · exact HF.out
  · clear hs
    have rO2 := rO1.alloc (.cells #[.int .i64 0, .int .i64 0, .int .i64 0, .int .i64 0, .slice none 0 0] 24)
    have hb02 := hb01.alloc (show w.heap.size ≤ w1.heap.size by omega) (.cells #[.int .i64 0, .int .i64 0, .int .i64 0, .int .i64 0, .slice none 0 0] 24)
    have y0 := rO2.cell (i := 0) rfl
    have y1 := rO2.cell (i := 1) rfl
    have y2 := rO2.cell (i := 2) rfl
    have y3 := rO2.cell (i := 3) rfl
    have f0 := rO2.frozen 0
    have f1 := rO2.frozen 1
    have f2 := rO2.frozen 2
    have f3 := rO2.frozen 3
    have hfin := hp outZ 1 (.slice none 0 0) (.slice none 0 0) (out4 (w1.alloc (.cells #[.int .i64 0, .int .i64 0, .int .i64 0, .int .i64 0, .slice none 0 0] 24)) (w.heap.size + 1) 0 0 (.slice none 0 0) (.slice none 0 0)) (.inl ⟨rfl, rfl, hn⟩) (runOut_nil (out4_below hb02 (by omega) _ _ _ _))
    have HF : Hid (Post (.returned (.tuple #[.agg #[.int .i64 0, .int .i64 0, .slice none 0 0, .slice none 0 0], .int .i64 1])) (out4 (w1.alloc (.cells #[.int .i64 0, .int .i64 0, .int .i64 0, .int .i64 0, .slice none 0 0] 24)) (w.heap.size + 1) 0 0 (.slice none 0 0) (.slice none 0 0))) := hfin
    clear hfin hp rI1 rO1 rO2 hb01 hb02 hb1 hn
    unfold out4 at HF
    go_wp2
    (try simp only [Exit.inBlock, Exit.then])
    refine bodyPost_ret (v := .tuple #[.agg #[.int .i64 0, .int .i64 0, .slice none 0 0, .slice none 0 0], .int .i64 1]) ?_ rfl ?_
    · simp [results, Try.results59, go_sem, y0, y1, y2, y3]
    · exact HF.out

end Go.Proofs.Ytblhmeidbjigaaa

/- Run in package twin. -/
set_option linter.unusedSimpArgs false
set_option linter.unusedVariables false
namespace Go.Proofs.Ytblhmeidbjigaaa
open Go.RowKit

theorem RunOut.set4 {w w0 w' : World} {o : OutD} {mv lv : Value} (h : RunOut w0 w' o mv lv) (hb : Below w.heap.size w w0) {R : Nat} {xs : List Value} (hr : Row w' R 54 xs) (hR : w.heap.size ≤ R) (k r : Int) (m l : Value) : RunOut w (out4 w' R k r m l) o mv lv :=
  ⟨owns_base (owns_rebase (OwnW.out4 (owns_base h.mem (Nat.zero_le _)) hr _ _ _ _) (fun g e => (h.mem.lt g e).1)) hb.size, owns_base (owns_rebase (OwnW.out4 (owns_base h.leak (Nat.zero_le _)) hr _ _ _ _) (fun g e => (h.leak.lt g e).1)) hb.size, h.apart,
    out4_below (hb.trans (h.below.mono hb.size)) hR _ _ _ _⟩

set_option maxRecDepth 100000 in
set_option maxHeartbeats 2000000 in
theorem tRun_cps (s : ByteArray) (av mv sv : Value) (args mem spill : List Int) (fuel : Int) (w : World) (ha : RdWords w av args) (hm : RdWords w mv mem) (hsp : RdWords w sv spill) (hs : s.size ≤ maxLen) (Post : Ending → World → Prop)
    (hp : ∀ o e mv lv w', RunAns s args mem spill fuel o e → RunOut w w' o mv lv → Post (.returned (.tuple #[.agg #[.int .i64 o.kind, .int .i64 o.result, mv, lv], .int .i64 e])) w') :
    Calls Try.prog 24 #[.string s, .agg #[av, mv, sv], .int .i64 fuel] w Post := by
  obtain ⟨ao, ac, rfl, hal, _⟩ := id ha
  obtain ⟨mo, mc, rfl, hml, _⟩ := id hm
  obtain ⟨so, sc, rfl, hsl, _⟩ := id hsp
  have rO : Row ((w.alloc (.cells #[.slice ao args.length ac, .slice mo mem.length mc, .slice so spill.length sc] 52)).alloc (.cells #[.int .i64 0, .int .i64 0, .slice none 0 0, .slice none 0 0] 54)) (w.heap.size + 1) 54 zOut := heap_alloc2_new w _ _
  have hbW : Below w.heap.size w ((w.alloc (.cells #[.slice ao args.length ac, .slice mo mem.length mc, .slice so spill.length sc] 52)).alloc (.cells #[.int .i64 0, .int .i64 0, .slice none 0 0, .slice none 0 0] 54)) := ((Below.refl w.heap.size w).alloc (Nat.le_refl _) _).alloc (by simp) _
  go_enter Try.func24, Try.ntmps24
  go_wp2_with fail
  refine mRun_cps s _ _ _ args mem spill fuel _ (ha.keep hbW) (hm.keep hbW) (hsp.keep hbW) hs _ ?_
  intro o e mv' lv' w1 hans hout
  have rO1 := rO.keep hout.below
  have ho := hout.set4 hbW rO1 (by omega) o.kind o.result mv' lv'
  have hfin := hp o e mv' lv' _ hans ho
  obtain ⟨mo', mc', rfl⟩ := owns_slice hout.mem
  obtain ⟨lo', lc', rfl⟩ := owns_slice hout.leak
  have HF : Hid (Post (.returned (.tuple #[.agg #[.int .i64 o.kind, .int .i64 o.result, .slice mo' o.mem.length mc', .slice lo' o.leak.length lc'], .int .i64 e])) (out4 w1 (w.heap.size + 1) o.kind o.result (.slice mo' o.mem.length mc') (.slice lo' o.leak.length lc'))) := hfin
  have y0 := rO1.cell (i := 0) rfl
  have y1 := rO1.cell (i := 1) rfl
  have y2 := rO1.cell (i := 2) rfl
  have y3 := rO1.cell (i := 3) rfl
  have f0 := rO1.frozen 0
  have f1 := rO1.frozen 1
  have f2 := rO1.frozen 2
  have f3 := rO1.frozen 3
  clear hfin hp hans hout ho rO rO1 hbW ha hm hsp
  unfold out4 at HF
  go_wp2
  (try simp only [Exit.inBlock, Exit.then])
  refine bodyPost_ret (v := .tuple #[.agg #[.int .i64 o.kind, .int .i64 o.result, .slice mo' o.mem.length mc', .slice lo' o.leak.length lc'], .int .i64 e]) ?_ rfl ?_
  · simp [results, Try.results24, go_sem, y0, y1, y2, y3]
  · exact HF.out

end Go.Proofs.Ytblhmeidbjigaaa
