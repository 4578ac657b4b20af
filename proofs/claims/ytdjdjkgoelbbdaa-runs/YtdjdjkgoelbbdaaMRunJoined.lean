/- The machine runs. -/
import Derived.Test.YtdjdjkgoelbbdaaRCalToMAll
set_option linter.unusedSimpArgs false
set_option linter.unusedVariables false
namespace Go.Proofs.Ytdjdjkgoelbbdaa
open Go.RowKit

theorem blocksGood_at {regs slots n : Int} {l : List BlockD} (h : blocksGood regs slots n l = true) {k : Nat} (hk : k < l.length) : (bops l k).length ≤ 12 ∧ opsGood regs slots (bops l k) = true ∧ endGood regs n (bfin l k) = true := by
  have := List.all_eq_true.1 h (l.getD k bz) (getD_mem' hk)
  simp only [blockGood, Bool.and_eq_true, decide_eq_true_eq] at this
  exact ⟨this.1.1, this.1.2, this.2⟩

theorem goesTo_in {s : RunD} {e : EndD} {regs n : Int} (h : endGood regs n e = true) (hne : e.kind ≠ 3) : 0 ≤ goesTo s e ∧ goesTo s e < n := by
  unfold endGood at h
  by_cases h1 : e.kind = 1
  · simp [h1, below] at h
    have : goesTo s e = e.x := by simp [goesTo, h1]
    rw [this]; omega
  · by_cases h2 : e.kind = 2
    · simp [h2, below] at h
      have : goesTo s e = if rg s.regs e.r = 0 then e.y else e.x := by simp [goesTo, h2]
      rw [this]
      split <;> omega
    · simp [h1, h2, hne] at h

theorem goesOn_leak (s : RunD) (e : EndD) : (goesOn s e).leak.length ≤ s.leak.length + 1 := by
  unfold goesOn
  split <;> simp [RunD.out]

theorem goesOn_trap (s : RunD) (e : EndD) : (goesOn s e).trap = s.trap := by
  unfold goesOn
  split <;> rfl

def zOut : List Value := [.int .i64 0, .int .i64 0, .slice none 0 0, .slice none 0 0]

/-- The outcome is stored, where it goes out. -/
def out4 (w : World) (R : Nat) (k r : Int) (m l : Value) : World := (((w.setCell ⟨R, 0, none⟩ (.int .i64 k)).setCell ⟨R, 1, none⟩ (.int .i64 r)).setCell ⟨R, 2, none⟩ m).setCell ⟨R, 3, none⟩ l

theorem OwnW.far {w : World} {v : Value} {l : List Int} (h : OwnW w v l) {H : Nat} {t : TypeId} {xs : List Value} (hr : Row w H t xs) (ht : t ≠ 3) (i : Nat) (u : Value) : OwnW (w.setCell ⟨H, i, none⟩ u) v l :=
  owns_unset h (fun e => row_owns_apart hr h ht e) u

theorem OwnW.out4 {w : World} {v : Value} {l : List Int} (h : OwnW w v l) {R : Nat} {xs : List Value} (hr : Row w R 54 xs) (k r : Int) (m q : Value) : OwnW (Go.Proofs.Ytdjdjkgoelbbdaa.out4 w R k r m q) v l :=
  (((h.far hr (by decide) 0 _).far (hr.set 0 _) (by decide) 1 _).far ((hr.set 0 _).set 1 _) (by decide) 2 _).far (((hr.set 0 _).set 1 _).set 2 _) (by decide) 3 _

theorem Keep.out4 {S : Nat → Prop} {w a : World} (h : Keep S w a) {R : Nat} (hp : S R ∨ w.heap.size ≤ R) (k r : Int) (m q : Value) : Keep S w (Go.Proofs.Ytdjdjkgoelbbdaa.out4 a R k r m q) :=
  (((h.setCell hp _).setCell hp _).setCell hp _).setCell hp _

set_option maxRecDepth 100000 in
set_option maxHeartbeats 4000000 in
theorem run_cps (K : Nat → Prop) (M : Nat) (s : RunD) (bs : List BlockD) (v : Value) (fuel : Nat) (regs data slots : Int) (w0 w : World) (h : Mach K w M s) (hf : fuel ≤ 300) (hl : s.leak = []) (ht : s.trap = 0) (hz : Sized s regs data slots) (hg : blocksGood regs slots bs.length bs = true) (hnb : 1 ≤ bs.length)
    (hrd : RdBlocks w0 v bs) (hK0 : ∀ g, g < w0.heap.size → K g) (hb0 : Below w0.heap.size w0 w) (Post : Ending → World → Prop)
    (hp : ∀ mv lv w', OwnW w' mv (runN bs fuel 0 s).mem → OwnW w' lv (runN bs fuel 0 s).leak → (∀ g, mv.ownBlock = some g → lv.ownBlock ≠ some g) → (∀ g, mv.ownBlock = some g → ¬ K g) → (∀ g, lv.ownBlock = some g → ¬ K g) → Keep (fun g => ¬ K g) w w' →
      Post (.returned (.agg #[.int .i64 (runN bs fuel 0 s).kind, .int .i64 (runN bs fuel 0 s).result, mv, lv])) w') :
    Calls Try.prog 93 #[.pointer (some ⟨M, 0, none⟩), v, .int .i64 fuel] w Post := by
  obtain ⟨ao, cap, rfl, hll, hc⟩ := hrd
  obtain ⟨G, hG⟩ : ∃ G, runN bs fuel 0 s = G := ⟨_, rfl⟩
  rw [hG] at hp
  have W0 := With.start h 54 zOut
  have hold : ∀ w', Keep (fun g => ¬ K g) w w' → Below w0.heap.size w0 w' := fun w' hk => hb0.trans (hk.toBelow hb0.size (fun g hn => by rcases Nat.lt_or_ge g w0.heap.size with q | q; exact absurd (hK0 g q) hn; exact q))
  clear h hb0 hK0
  have HG : Hid (runN bs (fuel - 0) 0 s = G) := hG
  clear hG
  go_enter Try.func93, Try.ntmps93
  go_wp2
  go_loopw [7, 8] (fun x i wr => ∃ (k : Nat) (t : Nat) (s1 : RunD), k ≤ fuel ∧ i = .int .i64 k ∧ x = .int .i64 t ∧ t < bs.length ∧ Sized s1 regs data slots ∧ s1.leak.length ≤ 25 * k ∧ s1.trap = 0 ∧ With K w wr M w.heap.size 54 zOut s1 ∧ Hid (runN bs (fuel - k) t s1 = G))
    (fun _ i _ => fuel - (intOf i).toNat)
  case atStart => exact ⟨0, 0, s, Nat.zero_le _, rfl, rfl, by omega, hz, by simp [hl], ht, W0, HG⟩
  case round =>
    clear W0 HG hl ht hz s
    obtain ⟨k, t, s, hk, rfl, rfl, ht, hz, hl, htr, W, HG⟩ := hrel
    have hR := W.row.lt
    by_cases hlt : k < fuel
    · obtain ⟨b, off, sv, rfl, c0, c1, c2, c3, c4, hops⟩ := hc t ht
      have hbw := hold wr W.keep
      have d0 := cell_keep hbw c0
      have d1 := cell_keep hbw c1
      have d2 := cell_keep hbw c2
      have d3 := cell_keep hbw c3
      have d4 := cell_keep hbw c4
      obtain ⟨g12, gops, gend⟩ := blocksGood_at hg ht
      have V := With.start W.mach 76 [sv, .int .i64 (bek bs t), .int .i64 (ber bs t), .int .i64 (bex bs t), .int .i64 (bey bs t)]
      obtain ⟨so, sc, e0, _, _⟩ := id hops
      subst e0
      have v0 := V.row.cell (i := 0) rfl
      obtain ⟨f, hfk⟩ : ∃ f, fuel - k = f + 1 := ⟨fuel - k - 1, by omega⟩
      have HE : Hid (runN bs (f + 1) t s = G) := by show _ = _; rw [← hfk]; exact HG.out
      clear c0 c1 c2 c3 c4 hbw HG
      go_wp2_with fail
      refine doAll_cps _ M s (bops bs t) _ regs data slots _ V.mach (by omega) hz gops ?_ _ ?_
      · intro w' hk'
        refine hops.keep (hold w' (W.keep.trans ?_))
        have := V.keep.trans (hk'.mono (fun g hn e => hn (.inl e)))
        exact this.mono (fun g hn e => hn (.inl e))
      intro w2 hm2 hk2
      have V2 := V.next hm2 hk2
      clear V hm2 hk2 d0 d1 d2 d3 d4 v0
      have hz2 : Sized (doOps (bops bs t) s) regs data slots := hz.doOps _
      have hl2 := doOps_leak (bops bs t) s
      have HE2 : Hid ((if (doOps (bops bs t) s).trap ≠ 0 then OutD.mk (doOps (bops bs t) s).trap 0 [] (doOps (bops bs t) s).leak
          else if bek bs t = 3 then OutD.mk 1 (rg (doOps (bops bs t) s).regs (ber bs t)) (doOps (bops bs t) s).cells (doOps (bops bs t) s).leak
          else runN bs f (goesTo (doOps (bops bs t) s) (bfin bs t)) (goesOn (doOps (bops bs t) s) (bfin bs t))) = G) := HE.out
      clear HE
      generalize doOps (bops bs t) s = u at *
      obtain ⟨rv, cv, sv', lv, hrow, hbu, hKM⟩ := id V2.mach
      have m4 := hrow.cell (i := 4) rfl
      have WW : With K w w2 M w.heap.size 54 zOut u := W.next V2.done (V2.keep.mono (fun g hn e => hn (by rcases e with e | e; exact .inl e; exact .inr e)))
      clear W hops
      by_cases htu : u.trap = 0
      · rw [htu] at m4
        have e1 := V2.row.cell (i := 1) rfl
        by_cases h3 : bek bs t = 3
        · rw [h3] at e1
          have HG3 : Hid (OutD.mk 1 (rg u.regs (ber bs t)) u.cells u.leak = G) := by
            have := HE2.out
            simp only [htu, ne_eq, not_true_eq_false, if_false, h3, if_true] at this
            exact this
          have hge := gend
          unfold endGood at hge
          have hk3 : (bfin bs t).kind = 3 := h3
          simp [hk3, below] at hge
          obtain ⟨rr, hrr⟩ := Int.eq_ofNat_of_zero_le hge.1.1.1
          have hrr' : ber bs t = rr := hrr
          have e2 := V2.row.cell (i := 2) rfl
          rw [hrr'] at e2
          have hrl : rr < u.regs.length := by have := hz2.regs; omega
          have Wd := WW.below ((Below.refl w2.heap.size w2).drew)
          have b0 := WW.row.cell (i := 0) rfl
          have h0' := WW.row.frozen 0
          have b1 := WW.row.cell (i := 1) rfl
          have h1' := WW.row.frozen 1
          have b2 := WW.row.cell (i := 2) rfl
          have h2' := WW.row.frozen 2
          have b3 := WW.row.cell (i := 3) rfl
          have h3' := WW.row.frozen 3
          have Vd := V2.below ((Below.refl w2.heap.size w2).drew)
          clear hrow hbu WW
          obtain ⟨rv, cv, sv', lv, hrow, hbu, hKM⟩ := id Vd.mach
          obtain ⟨g2, rc, hrv, hgr, hrc, hrf⟩ := hbu.regs.at (i := rr) hrl
          subst hrv
          have en : u.regs.getD rr 0 = rg u.regs rr := by simp [rg]
          rw [en] at hrc
          have m0 := hrow.cell (i := 0) rfl
          have m1 := hrow.cell (i := 1) rfl
          have m3 := hrow.cell (i := 3) rfl
          have e2' := Vd.row.cell (i := 2) rfl
          rw [hrr'] at e2'
          have hai : (0 : Int) ≤ (rr : Int) := by omega
          have haj : (rr : Int) < (u.regs.length : Int) := by omega
          have a0 := Wd.row.cell (i := 0) rfl
          have a1 := Wd.row.cell (i := 1) rfl
          have a2 := Wd.row.cell (i := 2) rfl
          have a3 := Wd.row.cell (i := 3) rfl
          have f0 := Wd.row.frozen 0
          have f1 := Wd.row.frozen 1
          have f2 := Wd.row.frozen 2
          have f3 := Wd.row.frozen 3
          have hfin := hp cv lv (out4 w2.drew w.heap.size 1 (rg u.regs rr) cv lv) (by rw [← HG3.out]; exact OwnW.out4 hbu.cells Wd.row _ _ _ _) (by rw [← HG3.out]; exact OwnW.out4 hbu.leak Wd.row _ _ _ _) hbu.cl (fun g e c => hbu.kc g e (.inl (.inl c))) (fun g e c => hbu.kl g e (.inl (.inl c))) (Wd.keep.out4 (.inr (Nat.le_refl _)) _ _ _ _)
          rw [← HG3.out] at hfin
          simp only [hrr'] at hfin
          obtain ⟨co, cc, rfl⟩ := owns_slice hbu.cells
          obtain ⟨lo, lc, rfl⟩ := owns_slice hbu.leak
          have HF : Hid (Post (.returned (.agg #[.int .i64 1, .int .i64 (rg u.regs rr), .slice co u.cells.length cc, .slice lo u.leak.length lc])) (out4 w2.drew w.heap.size 1 (rg u.regs rr) (.slice co u.cells.length cc) (.slice lo u.leak.length lc))) := hfin
          clear hfin hp Wd Vd V2 hbu hrow HE2 HG3
          generalize rg u.regs rr = res at *
          unfold out4 at HF
          go_wp2
          refine wp_tail 18 (by kernel_rfl) (by kernel_rfl) ?_
          simp only [List.take_succ_cons, List.take_zero, List.drop_succ_cons, List.drop_zero]
          repeat still_step
          refine wpStill_nil ?_
          go_wp2
          (try simp only [Exit.inBlock, Exit.then])
          refine bodyPost_ret (v := .agg #[.int .i64 1, .int .i64 res, .slice co u.cells.length cc, .slice lo u.leak.length lc]) ?_ rfl ?_
          · simp [results, Try.results93, go_sem, b0, b1, b2, b3]
          · exact HF.out
        · have hn3 : (bek bs t == 3) = false := by simp [h3]
          have HG3 : Hid (runN bs f (goesTo u (bfin bs t)) (goesOn u (bfin bs t)) = G) := by
            have := HE2.out
            simp only [htu, ne_eq, not_true_eq_false, if_false, h3] at this
            exact this
          have e2 := V2.row.cell (i := 2) rfl
          have e3 := V2.row.cell (i := 3) rfl
          have e4 := V2.row.cell (i := 4) rfl
          clear hrow hbu
          go_wp2_with fail
          refine after_cps _ M u (bfin bs t) regs bs.length w2 V2.mach (by omega) hz2.regs gend h3 _ ?_
          intro w3 hm3 hk3
          have V3 := V2.next hm3 hk3
          have W3 : With K w w3 M w.heap.size 54 zOut (goesOn u (bfin bs t)) := WW.next V3.done ((hk3.mono (fun g hn e => hn (.inl e))))
          obtain ⟨gt0, gt1⟩ := goesTo_in (s := u) gend h3
          have hz3 : Sized (goesOn u (bfin bs t)) regs data slots := hz2.on _
          have hl3 := goesOn_leak u (bfin bs t)
          have ht3 : (goesOn u (bfin bs t)).trap = 0 := by rw [goesOn_trap]; exact htu
          generalize goesOn u (bfin bs t) = u3 at *
          generalize goesTo u (bfin bs t) = t3 at *
          obtain ⟨t3, rfl⟩ := Int.eq_ofNat_of_zero_le gt0
          have hfe : fuel - (k + 1) = f := by omega
          have HG4 : Hid (runN bs (fuel - (k + 1)) t3 u3 = G) := by show _ = _; rw [hfe]; exact HG3.out
          clear hm3 hk3 V3 V2 WW HG3 HE2 m4 e1 e2 e3 e4
          go_wp2
          go_roundw
          case rel => exact ⟨k + 1, t3, u3, by omega, by go_num, rfl, by omega, hz3, by omega, ht3, W3, HG4⟩
          case measure => simp [intOf]; omega
      · have HG3 : Hid (OutD.mk u.trap 0 [] u.leak = G) := by
          have := HE2.out
          simp only [htu, ne_eq, not_false_eq_true, if_true] at this
          exact this
        have htu' : (u.trap == 0) = false := by simp [htu]
        have Wd := WW.below ((Below.refl w2.heap.size w2).drew)
        have b0 := WW.row.cell (i := 0) rfl
        have h0' := WW.row.frozen 0
        have b1 := WW.row.cell (i := 1) rfl
        have h1' := WW.row.frozen 1
        have b2 := WW.row.cell (i := 2) rfl
        have h2' := WW.row.frozen 2
        have b3 := WW.row.cell (i := 3) rfl
        have h3' := WW.row.frozen 3
        clear hrow hbu WW
        obtain ⟨rv, cv, sv', lv, hrow, hbu, hKM⟩ := id Wd.mach
        have m4d := hrow.cell (i := 4) rfl
        have m3 := hrow.cell (i := 3) rfl
        have a0 := Wd.row.cell (i := 0) rfl
        have a1 := Wd.row.cell (i := 1) rfl
        have a2 := Wd.row.cell (i := 2) rfl
        have a3 := Wd.row.cell (i := 3) rfl
        have f0 := Wd.row.frozen 0
        have f1 := Wd.row.frozen 1
        have f2 := Wd.row.frozen 2
        have f3 := Wd.row.frozen 3
        have hfin := hp (.slice none 0 0) lv (out4 w2.drew w.heap.size u.trap 0 (.slice none 0 0) lv) (by rw [← HG3.out]; exact World.ownsRow_nil _ _ _ _) (by rw [← HG3.out]; exact OwnW.out4 hbu.leak Wd.row _ _ _ _) (fun g e => by simp [Value.ownBlock] at e) (fun g e => by simp [Value.ownBlock] at e) (fun g e c => hbu.kl g e (.inl c)) (Wd.keep.out4 (.inr (Nat.le_refl _)) _ _ _ _)
        rw [← HG3.out] at hfin
        obtain ⟨lo, lc, rfl⟩ := owns_slice hbu.leak
        have HF : Hid (Post (.returned (.agg #[.int .i64 u.trap, .int .i64 0, .slice none 0 0, .slice lo u.leak.length lc])) (out4 w2.drew w.heap.size u.trap 0 (.slice none 0 0) (.slice lo u.leak.length lc))) := hfin
        clear hfin hp Wd V2 hbu hrow HE2 HG3
        generalize u.trap = tr at *
        unfold out4 at HF
        go_wp2
        refine wp_tail 9 (by kernel_rfl) (by kernel_rfl) ?_
        simp only [List.take_succ_cons, List.take_zero, List.drop_succ_cons, List.drop_zero]
        repeat still_step
        refine wpStill_nil ?_
        go_wp2
        (try simp only [Exit.inBlock, Exit.then])
        refine bodyPost_ret (v := .agg #[.int .i64 tr, .int .i64 0, .slice none 0 0, .slice lo u.leak.length lc]) ?_ rfl ?_
        · simp [results, Try.results93, go_sem, b0, b1, b2, b3]
        · exact HF.out
    · have hfe : fuel - k = 0 := by omega
      have HG3 : Hid (OutD.mk 4 0 s.cells s.leak = G) := by
        have := HG.out
        rw [hfe] at this
        exact this
      have Wd := W.below ((Below.refl wr.heap.size wr).drew)
      have b0 := W.row.cell (i := 0) rfl
      have h0' := W.row.frozen 0
      have b1 := W.row.cell (i := 1) rfl
      have h1' := W.row.frozen 1
      have b2 := W.row.cell (i := 2) rfl
      have h2' := W.row.frozen 2
      have b3 := W.row.cell (i := 3) rfl
      have h3' := W.row.frozen 3
      obtain ⟨rv, cv, sv', lv, hrow, hbu, hKM⟩ := id Wd.mach
      have m1 := hrow.cell (i := 1) rfl
      have m3 := hrow.cell (i := 3) rfl
      have a0 := Wd.row.cell (i := 0) rfl
      have a1 := Wd.row.cell (i := 1) rfl
      have a2 := Wd.row.cell (i := 2) rfl
      have a3 := Wd.row.cell (i := 3) rfl
      have f0 := Wd.row.frozen 0
      have f1 := Wd.row.frozen 1
      have f2 := Wd.row.frozen 2
      have f3 := Wd.row.frozen 3
      have hfin := hp cv lv (out4 wr.drew w.heap.size 4 0 cv lv) (by rw [← HG3.out]; exact OwnW.out4 hbu.cells Wd.row _ _ _ _) (by rw [← HG3.out]; exact OwnW.out4 hbu.leak Wd.row _ _ _ _) hbu.cl (fun g e c => hbu.kc g e (.inl c)) (fun g e c => hbu.kl g e (.inl c)) (Wd.keep.out4 (.inr (Nat.le_refl _)) _ _ _ _)
      rw [← HG3.out] at hfin
      obtain ⟨co, cc, rfl⟩ := owns_slice hbu.cells
      obtain ⟨lo, lc, rfl⟩ := owns_slice hbu.leak
      have HF : Hid (Post (.returned (.agg #[.int .i64 4, .int .i64 0, .slice co s.cells.length cc, .slice lo s.leak.length lc])) (out4 wr.drew w.heap.size 4 0 (.slice co s.cells.length cc) (.slice lo s.leak.length lc))) := hfin
      clear hfin hp Wd W hbu hrow HG HG3
      unfold out4 at HF
      go_wp2
      refine wp_tail 9 (by kernel_rfl) (by kernel_rfl) ?_
      simp only [List.take_succ_cons, List.take_zero, List.drop_succ_cons, List.drop_zero]
      repeat still_step
      refine wpStill_nil ?_
      go_wp2
      (try simp only [Exit.inBlock, Exit.then])
      refine bodyPost_ret (v := .agg #[.int .i64 4, .int .i64 0, .slice co s.cells.length cc, .slice lo s.leak.length lc]) ?_ rfl ?_
      · simp [results, Try.results93, go_sem, b0, b1, b2, b3]
      · exact HF.out

end Go.Proofs.Ytdjdjkgoelbbdaa
