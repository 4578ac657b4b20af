/- The machine runs. -/
import Derived.Test.YtblhmeidbjigaabGreatDoorRows
import Derived.WalkKit
import Derived.WalkSpells
import Derived.WalkLawsBesides
import Derived.Laws.BytesArg
import Derived.Deep.QuietTactic
import Derived.BigQuiet
import Derived.Deep.RegionHeld3
import Derived.Maps.AppendAt
import Derived.StillTailTactics
import Derived.Lib.ItoaNum
import Derived.Lib.ItoaLen
import Derived.OpenShut
import Derived.Test.YtblhmeidbjigaabGreatDoorTTwinToMAllSound

set_option linter.unusedSimpArgs false
set_option linter.unusedVariables false
namespace Go.Proofs.YtblhmeidbjigaabGreatDoor
open Go.RowKit

theorem blocksGood_at {regs slots n : Int} {l : List BlockD} (h : blocksGood regs slots n l = true) {k : Nat} (hk : k < l.length) : (bops l k).length ≤ 12 ∧ opsGood regs slots (bops l k) = true ∧ endGood regs n (bfin l k) = true := by
  have := List.all_eq_true.1 h (l.getD k bz) (getD_mem' hk)
  simp only [blockGood, Bool.and_eq_true, decide_eq_true_eq] at this
  exact ⟨this.1.1, this.1.2, this.2⟩

theorem goesTo_in {s : RunD} {e : EndD} {regs n : Int} (h : endGood regs n e = true) (hne : e.kind ≠ 3) : 0 ≤ goesTo s e ∧ goesTo s e < n := by
  unfold endGood at h
  by_cases h1 : e.kind = 1
  · simp [h1, below] at h
    have : goesTo s e = e.x := by simp [goesTo, h1]
    rw [this]; omega
  · by_cases h2 : e.kind = 2
    · simp [h2, below] at h
      have : goesTo s e = if rg s.regs e.r = 0 then e.y else e.x := by simp [goesTo, h2]
      rw [this]
      split <;> omega
    · simp [h1, h2, hne] at h

theorem goesOn_leak (s : RunD) (e : EndD) : (goesOn s e).leak.length ≤ s.leak.length + 1 := by
  unfold goesOn
  split <;> simp [RunD.out]

theorem goesOn_trap (s : RunD) (e : EndD) : (goesOn s e).trap = s.trap := by
  unfold goesOn
  split <;> rfl

def zOut : List Value := [.int .i64 0, .int .i64 0, .slice none 0 0, .slice none 0 0]

/-- The outcome is stored, where it goes out. -/
def out4 (w : World) (R : Nat) (k r : Int) (m l : Value) : World := (((w.setCell ⟨R, 0, none⟩ (.int .i64 k)).setCell ⟨R, 1, none⟩ (.int .i64 r)).setCell ⟨R, 2, none⟩ m).setCell ⟨R, 3, none⟩ l

theorem OwnW.far {w : World} {v : Value} {l : List Int} (h : OwnW w v l) {H : Nat} {t : TypeId} {xs : List Value} (hr : Row w H t xs) (ht : t ≠ 3) (i : Nat) (u : Value) : OwnW (w.setCell ⟨H, i, none⟩ u) v l :=
  owns_unset h (fun e => row_owns_apart hr h ht e) u

theorem OwnW.out4 {w : World} {v : Value} {l : List Int} (h : OwnW w v l) {R : Nat} {xs : List Value} (hr : Row w R 63 xs) (k r : Int) (m q : Value) : OwnW (Go.Proofs.YtblhmeidbjigaabGreatDoor.out4 w R k r m q) v l :=
  (((h.far hr (by decide) 0 _).far (hr.set 0 _) (by decide) 1 _).far ((hr.set 0 _).set 1 _) (by decide) 2 _).far (((hr.set 0 _).set 1 _).set 2 _) (by decide) 3 _

theorem Keep.out4 {S : Nat → Prop} {w a : World} (h : Keep S w a) {R : Nat} (hp : S R ∨ w.heap.size ≤ R) (k r : Int) (m q : Value) : Keep S w (Go.Proofs.YtblhmeidbjigaabGreatDoor.out4 a R k r m q) :=
  (((h.setCell hp _).setCell hp _).setCell hp _).setCell hp _

set_option maxRecDepth 100000 in
set_option maxHeartbeats 4000000 in
theorem run_cps (K : Nat → Prop) (M : Nat) (s : RunD) (bs : List BlockD) (v : Value) (fuel : Nat) (regs data slots : Int) (w0 w : World) (h : Mach K w M s) (hf : fuel ≤ 300) (hl : s.leak = []) (ht : s.trap = 0) (hz : Sized s regs data slots) (hg : blocksGood regs slots bs.length bs = true) (hnb : 1 ≤ bs.length)
    (hrd : RdBlocks w0 v bs) (hK0 : ∀ g, g < w0.heap.size → K g) (hb0 : Below w0.heap.size w0 w) (Post : Ending → World → Prop)
    (hp : ∀ mv lv w', OwnW w' mv (runN bs fuel 0 s).mem → OwnW w' lv (runN bs fuel 0 s).leak → (∀ g, mv.ownBlock = some g → lv.ownBlock ≠ some g) → (∀ g, mv.ownBlock = some g → ¬ K g) → (∀ g, lv.ownBlock = some g → ¬ K g) → Keep (fun g => ¬ K g) w w' →
      Post (.returned (.agg #[.int .i64 (runN bs fuel 0 s).kind, .int .i64 (runN bs fuel 0 s).result, mv, lv])) w') :
    Calls Tryz.prog 68 #[.pointer (some ⟨M, 0, none⟩), v, .int .i64 fuel] w Post := by
  obtain ⟨ao, cap, rfl, hll, hc⟩ := hrd
  obtain ⟨G, hG⟩ : ∃ G, runN bs fuel 0 s = G := ⟨_, rfl⟩
  rw [hG] at hp
  have W0 := With.start h 63 zOut
  have hold : ∀ w', Keep (fun g => ¬ K g) w w' → Below w0.heap.size w0 w' := fun w' hk => hb0.trans (hk.toBelow hb0.size (fun g hn => by rcases Nat.lt_or_ge g w0.heap.size with q | q; exact absurd (hK0 g q) hn; exact q))
  clear h hb0 hK0
  have HG : Hid (runN bs (fuel - 0) 0 s = G) := hG
  clear hG
  go_enter Tryz.func68, Tryz.ntmps68
  go_wp2
  go_loopw [7, 8] (fun x i wr => ∃ (k : Nat) (t : Nat) (s1 : RunD), k ≤ fuel ∧ i = .int .i64 k ∧ x = .int .i64 t ∧ t < bs.length ∧ Sized s1 regs data slots ∧ s1.leak.length ≤ 25 * k ∧ s1.trap = 0 ∧ With K w wr M w.heap.size 63 zOut s1 ∧ Hid (runN bs (fuel - k) t s1 = G))
    (fun _ i _ => fuel - (intOf i).toNat)
  case atStart => exact ⟨0, 0, s, Nat.zero_le _, rfl, rfl, by omega, hz, by simp [hl], ht, W0, HG⟩
  case round =>
    clear W0 HG hl ht hz s
    obtain ⟨k, t, s, hk, rfl, rfl, ht, hz, hl, htr, W, HG⟩ := hrel
    have hR := W.row.lt
    by_cases hlt : k < fuel
    · obtain ⟨b, off, sv, rfl, c0, c1, c2, c3, c4, hops⟩ := hc t ht
      have hbw := hold wr W.keep
      have d0 := cell_keep hbw c0
      have d1 := cell_keep hbw c1
      have d2 := cell_keep hbw c2
      have d3 := cell_keep hbw c3
      have d4 := cell_keep hbw c4
      obtain ⟨g12, gops, gend⟩ := blocksGood_at hg ht
      have V := With.start W.mach 42 [sv, .int .i64 (bek bs t), .int .i64 (ber bs t), .int .i64 (bex bs t), .int .i64 (bey bs t)]
      obtain ⟨so, sc, e0, _, _⟩ := id hops
      subst e0
      have v0 := V.row.cell (i := 0) rfl
      obtain ⟨f, hfk⟩ : ∃ f, fuel - k = f + 1 := ⟨fuel - k - 1, by omega⟩
      have HE : Hid (runN bs (f + 1) t s = G) := by show _ = _; rw [← hfk]; exact HG.out
      clear c0 c1 c2 c3 c4 hbw HG
      go_wp2_with fail
      refine doAll_cps _ M s (bops bs t) _ regs data slots _ V.mach (by omega) hz gops ?_ _ ?_
      · intro w' hk'
        refine hops.keep (hold w' (W.keep.trans ?_))
        have := V.keep.trans (hk'.mono (fun g hn e => hn (.inl e)))
        exact this.mono (fun g hn e => hn (.inl e))
      intro w2 hm2 hk2
      have V2 := V.next hm2 hk2
      clear V hm2 hk2 d0 d1 d2 d3 d4 v0
      have hz2 : Sized (doOps (bops bs t) s) regs data slots := hz.doOps _
      have hl2 := doOps_leak (bops bs t) s
      have HE2 : Hid ((if (doOps (bops bs t) s).trap ≠ 0 then OutD.mk (doOps (bops bs t) s).trap 0 [] (doOps (bops bs t) s).leak
          else if bek bs t = 3 then OutD.mk 1 (rg (doOps (bops bs t) s).regs (ber bs t)) (doOps (bops bs t) s).cells (doOps (bops bs t) s).leak
          else runN bs f (goesTo (doOps (bops bs t) s) (bfin bs t)) (goesOn (doOps (bops bs t) s) (bfin bs t))) = G) := HE.out
      clear HE
      generalize doOps (bops bs t) s = u at *
      obtain ⟨rv, cv, sv', lv, hrow, hbu, hKM⟩ := id V2.mach
      have m4 := hrow.cell (i := 4) rfl
      have WW : With K w w2 M w.heap.size 63 zOut u := W.next V2.done (V2.keep.mono (fun g hn e => hn (by rcases e with e | e; exact .inl e; exact .inr e)))
      clear W hops
      by_cases htu : u.trap = 0
      · rw [htu] at m4
        have e1 := V2.row.cell (i := 1) rfl
        by_cases h3 : bek bs t = 3
        · rw [h3] at e1
          have HG3 : Hid (OutD.mk 1 (rg u.regs (ber bs t)) u.cells u.leak = G) := by
            have := HE2.out
            simp only [htu, ne_eq, not_true_eq_false, if_false, h3, if_true] at this
            exact this
          have hge := gend
          unfold endGood at hge
          have hk3 : (bfin bs t).kind = 3 := h3
          simp [hk3, below] at hge
          obtain ⟨rr, hrr⟩ := Int.eq_ofNat_of_zero_le hge.1.1.1
          have hrr' : ber bs t = rr := hrr
          have e2 := V2.row.cell (i := 2) rfl
          rw [hrr'] at e2
          have hrl : rr < u.regs.length := by have := hz2.regs; omega
          have Wd := WW.below ((Below.refl w2.heap.size w2).drew)
          have b0 := WW.row.cell (i := 0) rfl
          have h0' := WW.row.frozen 0
          have b1 := WW.row.cell (i := 1) rfl
          have h1' := WW.row.frozen 1
          have b2 := WW.row.cell (i := 2) rfl
          have h2' := WW.row.frozen 2
          have b3 := WW.row.cell (i := 3) rfl
          have h3' := WW.row.frozen 3
          have Vd := V2.below ((Below.refl w2.heap.size w2).drew)
          clear hrow hbu WW
          obtain ⟨rv, cv, sv', lv, hrow, hbu, hKM⟩ := id Vd.mach
          obtain ⟨g2, rc, hrv, hgr, hrc, hrf⟩ := hbu.regs.at (i := rr) hrl
          subst hrv
          have en : u.regs.getD rr 0 = rg u.regs rr := by simp [rg]
          rw [en] at hrc
          have m0 := hrow.cell (i := 0) rfl
          have m1 := hrow.cell (i := 1) rfl
          have m3 := hrow.cell (i := 3) rfl
          have e2' := Vd.row.cell (i := 2) rfl
          rw [hrr'] at e2'
          have hai : (0 : Int) ≤ (rr : Int) := by omega
          have haj : (rr : Int) < (u.regs.length : Int) := by omega
          have a0 := Wd.row.cell (i := 0) rfl
          have a1 := Wd.row.cell (i := 1) rfl
          have a2 := Wd.row.cell (i := 2) rfl
          have a3 := Wd.row.cell (i := 3) rfl
          have f0 := Wd.row.frozen 0
          have f1 := Wd.row.frozen 1
          have f2 := Wd.row.frozen 2
          have f3 := Wd.row.frozen 3
          have hfin := hp cv lv (out4 w2.drew w.heap.size 1 (rg u.regs rr) cv lv) (by rw [← HG3.out]; exact OwnW.out4 hbu.cells Wd.row _ _ _ _) (by rw [← HG3.out]; exact OwnW.out4 hbu.leak Wd.row _ _ _ _) hbu.cl (fun g e c => hbu.kc g e (.inl (.inl c))) (fun g e c => hbu.kl g e (.inl (.inl c))) (Wd.keep.out4 (.inr (Nat.le_refl _)) _ _ _ _)
          rw [← HG3.out] at hfin
          simp only [hrr'] at hfin
          obtain ⟨co, cc, rfl⟩ := owns_slice hbu.cells
          obtain ⟨lo, lc, rfl⟩ := owns_slice hbu.leak
          have HF : Hid (Post (.returned (.agg #[.int .i64 1, .int .i64 (rg u.regs rr), .slice co u.cells.length cc, .slice lo u.leak.length lc])) (out4 w2.drew w.heap.size 1 (rg u.regs rr) (.slice co u.cells.length cc) (.slice lo u.leak.length lc))) := hfin
          clear hfin hp Wd Vd V2 hbu hrow HE2 HG3
          generalize rg u.regs rr = res at *
          unfold out4 at HF
          go_wp2
          refine wp_tail 18 (by kernel_rfl) (by kernel_rfl) ?_
          simp only [List.take_succ_cons, List.take_zero, List.drop_succ_cons, List.drop_zero]
          repeat still_step
          refine wpStill_nil ?_
          go_wp2
          (try simp only [Exit.inBlock, Exit.then])
          refine bodyPost_ret (v := .agg #[.int .i64 1, .int .i64 res, .slice co u.cells.length cc, .slice lo u.leak.length lc]) ?_ rfl ?_
          · simp [results, Tryz.results68, go_sem, b0, b1, b2, b3]
          · exact HF.out
        · have hn3 : (bek bs t == 3) = false := by simp [h3]
          have HG3 : Hid (runN bs f (goesTo u (bfin bs t)) (goesOn u (bfin bs t)) = G) := by
            have := HE2.out
            simp only [htu, ne_eq, not_true_eq_false, if_false, h3] at this
            exact this
          have e2 := V2.row.cell (i := 2) rfl
          have e3 := V2.row.cell (i := 3) rfl
          have e4 := V2.row.cell (i := 4) rfl
          clear hrow hbu
          go_wp2_with fail
          refine after_cps _ M u (bfin bs t) regs bs.length w2 V2.mach (by omega) hz2.regs gend h3 _ ?_
          intro w3 hm3 hk3
          have V3 := V2.next hm3 hk3
          have W3 : With K w w3 M w.heap.size 63 zOut (goesOn u (bfin bs t)) := WW.next V3.done ((hk3.mono (fun g hn e => hn (.inl e))))
          obtain ⟨gt0, gt1⟩ := goesTo_in (s := u) gend h3
          have hz3 : Sized (goesOn u (bfin bs t)) regs data slots := hz2.on _
          have hl3 := goesOn_leak u (bfin bs t)
          have ht3 : (goesOn u (bfin bs t)).trap = 0 := by rw [goesOn_trap]; exact htu
          generalize goesOn u (bfin bs t) = u3 at *
          generalize goesTo u (bfin bs t) = t3 at *
          obtain ⟨t3, rfl⟩ := Int.eq_ofNat_of_zero_le gt0
          have hfe : fuel - (k + 1) = f := by omega
          have HG4 : Hid (runN bs (fuel - (k + 1)) t3 u3 = G) := by show _ = _; rw [hfe]; exact HG3.out
          clear hm3 hk3 V3 V2 WW HG3 HE2 m4 e1 e2 e3 e4
          go_wp2
          go_roundw
          case rel => exact ⟨k + 1, t3, u3, by omega, by go_num, rfl, by omega, hz3, by omega, ht3, W3, HG4⟩
          case measure => simp [intOf]; omega
      · have HG3 : Hid (OutD.mk u.trap 0 [] u.leak = G) := by
          have := HE2.out
          simp only [htu, ne_eq, not_false_eq_true, if_true] at this
          exact this
        have htu' : (u.trap == 0) = false := by simp [htu]
        have Wd := WW.below ((Below.refl w2.heap.size w2).drew)
        have b0 := WW.row.cell (i := 0) rfl
        have h0' := WW.row.frozen 0
        have b1 := WW.row.cell (i := 1) rfl
        have h1' := WW.row.frozen 1
        have b2 := WW.row.cell (i := 2) rfl
        have h2' := WW.row.frozen 2
        have b3 := WW.row.cell (i := 3) rfl
        have h3' := WW.row.frozen 3
        clear hrow hbu WW
        obtain ⟨rv, cv, sv', lv, hrow, hbu, hKM⟩ := id Wd.mach
        have m4d := hrow.cell (i := 4) rfl
        have m3 := hrow.cell (i := 3) rfl
        have a0 := Wd.row.cell (i := 0) rfl
        have a1 := Wd.row.cell (i := 1) rfl
        have a2 := Wd.row.cell (i := 2) rfl
        have a3 := Wd.row.cell (i := 3) rfl
        have f0 := Wd.row.frozen 0
        have f1 := Wd.row.frozen 1
        have f2 := Wd.row.frozen 2
        have f3 := Wd.row.frozen 3
        have hfin := hp (.slice none 0 0) lv (out4 w2.drew w.heap.size u.trap 0 (.slice none 0 0) lv) (by rw [← HG3.out]; exact World.ownsRow_nil _ _ _ _) (by rw [← HG3.out]; exact OwnW.out4 hbu.leak Wd.row _ _ _ _) (fun g e => by simp [Value.ownBlock] at e) (fun g e => by simp [Value.ownBlock] at e) (fun g e c => hbu.kl g e (.inl c)) (Wd.keep.out4 (.inr (Nat.le_refl _)) _ _ _ _)
        rw [← HG3.out] at hfin
        obtain ⟨lo, lc, rfl⟩ := owns_slice hbu.leak
        have HF : Hid (Post (.returned (.agg #[.int .i64 u.trap, .int .i64 0, .slice none 0 0, .slice lo u.leak.length lc])) (out4 w2.drew w.heap.size u.trap 0 (.slice none 0 0) (.slice lo u.leak.length lc))) := hfin
        clear hfin hp Wd V2 hbu hrow HE2 HG3
        generalize u.trap = tr at *
        unfold out4 at HF
        go_wp2
        refine wp_tail 9 (by kernel_rfl) (by kernel_rfl) ?_
        simp only [List.take_succ_cons, List.take_zero, List.drop_succ_cons, List.drop_zero]
        repeat still_step
        refine wpStill_nil ?_
        go_wp2
        (try simp only [Exit.inBlock, Exit.then])
        refine bodyPost_ret (v := .agg #[.int .i64 tr, .int .i64 0, .slice none 0 0, .slice lo u.leak.length lc]) ?_ rfl ?_
        · simp [results, Tryz.results68, go_sem, b0, b1, b2, b3]
        · exact HF.out
    · have hfe : fuel - k = 0 := by omega
      have HG3 : Hid (OutD.mk 4 0 s.cells s.leak = G) := by
        have := HG.out
        rw [hfe] at this
        exact this
      have Wd := W.below ((Below.refl wr.heap.size wr).drew)
      have b0 := W.row.cell (i := 0) rfl
      have h0' := W.row.frozen 0
      have b1 := W.row.cell (i := 1) rfl
      have h1' := W.row.frozen 1
      have b2 := W.row.cell (i := 2) rfl
      have h2' := W.row.frozen 2
      have b3 := W.row.cell (i := 3) rfl
      have h3' := W.row.frozen 3
      obtain ⟨rv, cv, sv', lv, hrow, hbu, hKM⟩ := id Wd.mach
      have m1 := hrow.cell (i := 1) rfl
      have m3 := hrow.cell (i := 3) rfl
      have a0 := Wd.row.cell (i := 0) rfl
      have a1 := Wd.row.cell (i := 1) rfl
      have a2 := Wd.row.cell (i := 2) rfl
      have a3 := Wd.row.cell (i := 3) rfl
      have f0 := Wd.row.frozen 0
      have f1 := Wd.row.frozen 1
      have f2 := Wd.row.frozen 2
      have f3 := Wd.row.frozen 3
      have hfin := hp cv lv (out4 wr.drew w.heap.size 4 0 cv lv) (by rw [← HG3.out]; exact OwnW.out4 hbu.cells Wd.row _ _ _ _) (by rw [← HG3.out]; exact OwnW.out4 hbu.leak Wd.row _ _ _ _) hbu.cl (fun g e c => hbu.kc g e (.inl c)) (fun g e c => hbu.kl g e (.inl c)) (Wd.keep.out4 (.inr (Nat.le_refl _)) _ _ _ _)
      rw [← HG3.out] at hfin
      obtain ⟨co, cc, rfl⟩ := owns_slice hbu.cells
      obtain ⟨lo, lc, rfl⟩ := owns_slice hbu.leak
      have HF : Hid (Post (.returned (.agg #[.int .i64 4, .int .i64 0, .slice co s.cells.length cc, .slice lo s.leak.length lc])) (out4 wr.drew w.heap.size 4 0 (.slice co s.cells.length cc) (.slice lo s.leak.length lc))) := hfin
      clear hfin hp Wd W hbu hrow HG HG3
      unfold out4 at HF
      go_wp2
      refine wp_tail 9 (by kernel_rfl) (by kernel_rfl) ?_
      simp only [List.take_succ_cons, List.take_zero, List.drop_succ_cons, List.drop_zero]
      repeat still_step
      refine wpStill_nil ?_
      go_wp2
      (try simp only [Exit.inBlock, Exit.then])
      refine bodyPost_ret (v := .agg #[.int .i64 4, .int .i64 0, .slice co s.cells.length cc, .slice lo s.leak.length lc]) ?_ rfl ?_
      · simp [results, Tryz.results68, go_sem, b0, b1, b2, b3]
      · exact HF.out

end Go.Proofs.YtblhmeidbjigaabGreatDoor

/- Lists of words that are read. -/
set_option linter.unusedSimpArgs false
set_option linter.unusedVariables false
namespace Go.Proofs.YtblhmeidbjigaabGreatDoor
open Go.RowKit

/-- A list of words that is read. -/
def RdWords (w : World) (v : Value) (l : List Int) : Prop :=
  ∃ ao cap, v = .slice ao l.length cap ∧ l.length ≤ 9223372036854775807 ∧ ∀ i, i < l.length → ∃ b off, ao = some ⟨b, off, none⟩ ∧ w.cell? ⟨b, off + i, none⟩ = some (.int .i64 (l.getD i 0))

theorem RdWords.keep {w w' : World} {v : Value} {l : List Int} (h : RdWords w v l) (hb : Below w.heap.size w w') : RdWords w' v l := by
  obtain ⟨ao, cap, rfl, hl, hc⟩ := h
  exact ⟨ao, cap, rfl, hl, fun i hi => let ⟨b, off, e, h1⟩ := hc i hi; ⟨b, off, e, cell_keep hb h1⟩⟩

theorem rdWords_nil (w : World) : RdWords w (.slice none 0 0) [] := ⟨none, 0, rfl, by simp, fun i hi => by simp at hi⟩

end Go.Proofs.YtblhmeidbjigaabGreatDoor

/- Lists copied. -/
set_option linter.unusedSimpArgs false
set_option linter.unusedVariables false
namespace Go.Proofs.YtblhmeidbjigaabGreatDoor
open Go.RowKit

theorem ints_take {l : List Int} {k : Nat} (h : k < l.length) : ints (l.take (k + 1)) = ints (l.take k) ++ [.int .i64 (l.getD k 0)] := by
  rw [take_getD l 0 k h, ints_snoc]

theorem int_one (x : Int) : ∀ u ∈ [Value.int .i64 x], u.oneCell' = true := by
  intro u hu; simp at hu; subst hu; rfl

set_option maxRecDepth 100000 in
set_option maxHeartbeats 2000000 in
theorem copied_cps (v : Value) (l : List Int) (w : World) (hr : RdWords w v l) (hn : l.length ≤ 1000) (Post : Ending → World → Prop)
    (hp : ∀ v' w', w'.ownsRow w.heap.size 3 1 v' l.length (ints l) → Below w.heap.size w w' → Post (.returned v') w') :
    Calls Tryz.prog 105 #[v] w Post := by
  obtain ⟨ao, cap, rfl, hll, hc⟩ := hr
  obtain ⟨i0, ii, iz0, iz1, iz2⟩ := info_parts Tryz.infoInt
  go_enter Tryz.func105, Tryz.ntmps105
  go_wp2
  go_loopw [3, 4] (fun o i wr => ∃ (k : Nat), k ≤ l.length ∧ i = .int .i64 k ∧ wr.ownsRow w.heap.size 3 1 o k (ints (l.take k)) ∧ Below w.heap.size w wr)
    (fun _ i _ => l.length - (intOf i).toNat)
  case atStart => exact ⟨0, Nat.zero_le _, rfl, World.ownsRow_nil _ _ _ _, Below.refl _ _⟩
  case round =>
    obtain ⟨k, hk, rfl, hown, hbel⟩ := hrel
    obtain ⟨lo, lc, rfl⟩ := owns_slice hown
    have hz := hbel.size
    by_cases hlt : k < l.length
    · obtain ⟨b, off, rfl, h1⟩ := hc k hlt
      have h2 := cell_keep hbel h1
      have HT : Hid (ints (l.take (k + 1)) = ints (l.take k) ++ [.int .i64 (l.getD k 0)]) := ints_take hlt
      clear h1
      generalize l.getD k 0 = x at *
      go_wp2_with (at_builtin; refine wpList_append_own _ rfl _ _ 22 rfl w.heap.size 3 i0 (.int .i64 0) 1 8 Tryz.underlying22 ii iz0 iz1 iz2 rfl (by decide) _ _ _ rfl (hown.alloc _) ⟨wr.heap.size, 0, none⟩ 1 1 [.int .i64 x] rfl rfl ?c1 (int_one _) ?c3 ?c4 ?c5 ?_)
      case c1 => exact one_new wr _ _
      case c3 => unfold maxLen; omega
      case c4 => omega
      case c5 => simp; omega
      intro v' w3 hown' hgrow _
      rw [← HT.out] at hown'
      have hb3 := (hbel.alloc hz (.cells #[.int .i64 x] 3)).grown hgrow (by simp; omega) (fun g hg => (hown.lt g hg).1)
      obtain ⟨lo', lc', rfl⟩ := owns_slice hown'
      clear hgrow hown h2 hbel HT
      go_wp2
      go_roundw
      case rel => exact ⟨k + 1, by omega, by go_num, hown', hb3⟩
      case measure => simp [intOf]; omega
    · obtain rfl : k = l.length := by omega
      rw [List.take_length] at hown
      have HF : Hid (Post (.returned (.slice lo l.length lc)) wr) := hp _ _ hown hbel
      clear hp hown hbel hc
      go_wp2
      exact HF.out

def zMach : List Value := [.slice none 0 0, .slice none 0 0, .slice none 0 0, .slice none 0 0, .int .i64 0]

/-- The registers as a run begins. -/
def regs0 (args : List Int) (n : Nat) : List Int := args ++ List.replicate n 0

theorem regs0_snoc (args : List Int) (n : Nat) : ints (regs0 args (n + 1)) = ints (regs0 args n) ++ [.int .i64 0] := by
  unfold regs0
  rw [List.replicate_succ', ← List.append_assoc, ints_snoc]

theorem regs0_length (args : List Int) (n : Nat) : (regs0 args n).length = args.length + n := by simp [regs0]

end Go.Proofs.YtblhmeidbjigaabGreatDoor

/- The machine begins: lists of its own. -/
set_option linter.unusedSimpArgs false
set_option linter.unusedVariables false
namespace Go.Proofs.YtblhmeidbjigaabGreatDoor
open Go.RowKit

set_option maxRecDepth 100000 in
set_option maxHeartbeats 400000 in
theorem begin_cps (r a2 a3 : Int) (pv av mv sv : Value) (args mem spill : List Int) (w : World) (ha : RdWords w av args) (hm : RdWords w mv mem) (hs : RdWords w sv spill) (hla : (args.length : Int) ≤ r) (hr : r ≤ 8) (hlm : mem.length ≤ 8) (hls : spill.length ≤ 8) (hpv : ∃ po pn pc, pv = .slice po pn pc) (Post : Ending → World → Prop)
    (hp : ∀ rv cv sv w', Bunch (fun g => g < w.heap.size) w' rv cv sv (.slice none 0 0) ⟨regs0 args (r - args.length).toNat, mem, spill, [], 0⟩ → Below w.heap.size w w' → Post (.returned (.agg #[rv, cv, sv, .slice none 0 0, .int .i64 0])) w') :
    Calls Tryz.prog 67 #[.agg #[.int .i64 args.length, .int .i64 r, .int .i64 a2, .int .i64 a3, pv], .agg #[av, mv, sv]] w Post := by
  obtain ⟨i0, ii, iz0, iz1, iz2⟩ := info_parts Tryz.infoInt
  obtain ⟨po, pn, pc, rfl⟩ := hpv
  obtain ⟨ao, ac, rfl, _, _⟩ := id ha
  obtain ⟨mo, mc, rfl, _, _⟩ := id hm
  obtain ⟨so, sc, rfl, _, _⟩ := id hs
  obtain ⟨W, hW⟩ : ∃ W, W = ((w.alloc (.cells #[.int .i64 args.length, .int .i64 r, .int .i64 a2, .int .i64 a3, .slice po pn pc] 25)).alloc (.cells #[.slice ao args.length ac, .slice mo mem.length mc, .slice so spill.length sc] 67)).alloc (.cells #[.slice none 0 0, .slice none 0 0, .slice none 0 0, .slice none 0 0, .int .i64 0] 126) := ⟨_, rfl⟩
  have hzW : w.heap.size + 3 ≤ W.heap.size := by rw [hW]; simp
  have rP : Row W w.heap.size 25 [.int .i64 args.length, .int .i64 r, .int .i64 a2, .int .i64 a3, .slice po pn pc] := by
    rw [hW]
    have q : Row (w.alloc (.cells #[.int .i64 args.length, .int .i64 r, .int .i64 a2, .int .i64 a3, .slice po pn pc] 25)) w.heap.size 25 [.int .i64 args.length, .int .i64 r, .int .i64 a2, .int .i64 a3, .slice po pn pc] := heap_alloc_new w _
    exact (q.alloc _).alloc _
  have rI : Row W (w.heap.size + 1) 67 [.slice ao args.length ac, .slice mo mem.length mc, .slice so spill.length sc] := by
    rw [hW]
    have q : Row ((w.alloc (.cells #[.int .i64 args.length, .int .i64 r, .int .i64 a2, .int .i64 a3, .slice po pn pc] 25)).alloc (.cells #[.slice ao args.length ac, .slice mo mem.length mc, .slice so spill.length sc] 67)) (w.heap.size + 1) 67 [.slice ao args.length ac, .slice mo mem.length mc, .slice so spill.length sc] := heap_alloc2_new w _ _
    exact q.alloc _
  have rR : Row W (w.heap.size + 2) 126 zMach := by
    rw [hW]
    have q := heap_alloc2_new (w.alloc (.cells #[.int .i64 args.length, .int .i64 r, .int .i64 a2, .int .i64 a3, .slice po pn pc] 25)) (.cells #[.slice ao args.length ac, .slice mo mem.length mc, .slice so spill.length sc] 67) (.cells #[.slice none 0 0, .slice none 0 0, .slice none 0 0, .slice none 0 0, .int .i64 0] 126)
    simp only [World.size_alloc] at q
    exact q
  have hbW : Below w.heap.size w W := by rw [hW]; exact (((Below.refl w.heap.size w).alloc (Nat.le_refl _) _).alloc (by simp) _).alloc (by simp; omega) _
  have x0 := rI.cell (i := 0) rfl
  go_enter Tryz.func67, Tryz.ntmps67
  go_wp2_with fail
  rw [← hW]
  clear hW
  refine copied_cps _ args W (ha.keep hbW) (by omega) _ ?_
  intro rv0 w1 own1 hb1
  obtain ⟨ro0, rc0, rfl⟩ := owns_slice own1
  have p0 := (rP.keep hb1).cell (i := 0) rfl
  clear x0
  go_wp2
  go_loopw [5, 6] (fun o i wr => ∃ (j : Nat), (args.length : Int) + j ≤ r ∧ i = .int .i64 ((args.length + j : Nat) : Int) ∧ wr.ownsRow W.heap.size 3 1 o (args.length + j) (ints (regs0 args j)) ∧ Below W.heap.size W wr)
    (fun _ i _ => r.toNat - (intOf i).toNat)
  case atStart => exact ⟨0, by omega, by simp, by simpa [regs0] using own1, hb1⟩
  case round =>
    clear own1 hb1 p0 w1
    obtain ⟨j, hj, rfl, own, hbel⟩ := hrel
    obtain ⟨lo, lc, rfl⟩ := owns_slice own
    have hz := hbel.size
    have p1 := (rP.keep hbel).cell (i := 1) rfl
    by_cases hlt : (args.length : Int) + j < r
    · have HT : Hid (ints (regs0 args (j + 1)) = ints (regs0 args j) ++ [.int .i64 0]) := regs0_snoc args j
      go_wp2_with (at_builtin; refine wpList_append_own _ rfl _ _ 22 rfl W.heap.size 3 i0 (.int .i64 0) 1 8 Tryz.underlying22 ii iz0 iz1 iz2 rfl (by decide) _ _ _ rfl (own.alloc _) ⟨wr.heap.size, 0, none⟩ 1 1 [.int .i64 0] rfl rfl ?c1 (int_one _) ?c3 ?c4 ?c5 ?_)
      case c1 => exact one_new wr _ _
      case c3 => unfold maxLen; omega
      case c4 => omega
      case c5 => simp; omega
      intro v' w3 hown' hgrow _
      rw [← HT.out] at hown'
      have hb3 := (hbel.alloc hz (.cells #[.int .i64 0] 3)).grown hgrow (by simp; omega) (fun g hg => (own.lt g hg).1)
      obtain ⟨lo', lc', rfl⟩ := owns_slice hown'
      clear hgrow own hbel HT p1
      go_wp2
      go_roundw
      case rel => exact ⟨j + 1, by omega, by go_num, hown', hb3⟩
      case measure => simp [intOf]; omega
    · have hje : j = (r - args.length).toNat := by omega
      rw [← hje] at hp
      have hjl : args.length + j ≤ 8 := by omega
      clear hje
      have rIr := rI.keep hbel
      have rRr := rR.keep hbel
      have hmk : ∀ w', Keep (fun g => g = w.heap.size + 2) wr w' → RdWords w' (.slice mo mem.length mc) mem := fun w' hk => hm.keep (hbW.trans ((hbel.mono (by omega)).trans (hk.toBelow (by omega) (fun g hg => by omega))))
      have hsk : ∀ w', Keep (fun g => g = w.heap.size + 2) wr w' → RdWords w' (.slice so spill.length sc) spill := fun w' hk => hs.keep (hbW.trans ((hbel.mono (by omega)).trans (hk.toBelow (by omega) (fun g hg => by omega))))
      have q1 : ∀ w', Keep (fun g => g = w.heap.size + 2) wr w' → w'.cell? ⟨w.heap.size + 1, 1, none⟩ = some (.slice mo mem.length mc) := fun w' hk => hk.cell (by show ¬ (w.heap.size + 1 = w.heap.size + 2); omega) (rIr.cell (i := 1) rfl)
      have q2 : ∀ w', Keep (fun g => g = w.heap.size + 2) wr w' → w'.cell? ⟨w.heap.size + 1, 2, none⟩ = some (.slice so spill.length sc) := fun w' hk => hk.cell (by show ¬ (w.heap.size + 1 = w.heap.size + 2); omega) (rIr.cell (i := 2) rfl)
      have rRd : Row wr.drew (w.heap.size + 2) 126 zMach := rRr.keep ((Below.refl _ _).drew)
      have kd : Keep (fun g => g = w.heap.size + 2) wr wr.drew := (Keep.refl _ _).below ((Below.refl wr.heap.size wr).drew) (Nat.le_refl _)
      clear rIr
      go_wp2
      go_region_held3 (fun w' => Keep (fun g => g = w.heap.size + 2) wr w') (first | with_reducible exact kwm | with_reducible exact kws | with_reducible exact kd | with_reducible exact ((((kws.setCell (p := ⟨w.heap.size + 2, 0, none⟩) (.inl rfl) _).setCell (p := ⟨w.heap.size + 2, 1, none⟩) (.inl rfl) _).setCell (p := ⟨w.heap.size + 2, 2, none⟩) (.inl rfl) _).setCell (p := ⟨w.heap.size + 2, 3, none⟩) (.inl rfl) _).setCell (p := ⟨w.heap.size + 2, 4, none⟩) (.inl rfl) _ | with_reducible exact ((((kwm.setCell (p := ⟨w.heap.size + 2, 0, none⟩) (.inl rfl) _).setCell (p := ⟨w.heap.size + 2, 1, none⟩) (.inl rfl) _).setCell (p := ⟨w.heap.size + 2, 2, none⟩) (.inl rfl) _).setCell (p := ⟨w.heap.size + 2, 3, none⟩) (.inl rfl) _).setCell (p := ⟨w.heap.size + 2, 4, none⟩) (.inl rfl) _) (first | (go_at_call 105; with_reducible refine copied_cps (.slice mo mem.length mc) mem wr.drew (hmk _ kd) (by omega) _ ?_; intro cv wm ownm hbm; obtain ⟨co, cc, rfl⟩ := owns_slice ownm; have kwm := kd.below hbm kd.size; have rRm := rRd.keep hbm; have z0 := rRm.cell (i := 0) rfl; have f0 := rRm.frozen 0; have z1 := rRm.cell (i := 1) rfl; have f1 := rRm.frozen 1; have z2 := rRm.cell (i := 2) rfl; have f2 := rRm.frozen 2; have z3 := rRm.cell (i := 3) rfl; have f3 := rRm.frozen 3; have z4 := rRm.cell (i := 4) rfl; have f4 := rRm.frozen 4) | (go_at_call 105; with_reducible refine copied_cps (.slice so spill.length sc) spill wm (hsk _ kwm) (by omega) _ ?_; intro sv ws owns hbs; obtain ⟨so', sc', rfl⟩ := owns_slice owns; have kws := kwm.below hbs kwm.size; have rRs := rRm.keep hbs; have y0 := rRs.cell (i := 0) rfl; have e0 := rRs.frozen 0; have y1 := rRs.cell (i := 1) rfl; have e1 := rRs.frozen 1; have y2 := rRs.cell (i := 2) rfl; have e2 := rRs.frozen 2; have y3 := rRs.cell (i := 3) rfl; have e3 := rRs.frozen 3; have y4 := rRs.cell (i := 4) rfl; have e4 := rRs.frozen 4) | (go_at_call 105; with_reducible refine copied_cps (.slice so spill.length sc) spill wr.drew (hsk _ kd) (by omega) _ ?_; intro sv ws owns hbs; obtain ⟨so', sc', rfl⟩ := owns_slice owns; have kws := kd.below hbs kd.size; have rRs := rRd.keep hbs; have y0 := rRs.cell (i := 0) rfl; have e0 := rRs.frozen 0; have y1 := rRs.cell (i := 1) rfl; have e1 := rRs.frozen 1; have y2 := rRs.cell (i := 2) rfl; have e2 := rRs.frozen 2; have y3 := rRs.cell (i := 3) rfl; have e3 := rRs.frozen 3; have y4 := rRs.cell (i := 4) rfl; have e4 := rRs.frozen 4) | (go_at_call 105; with_reducible refine copied_cps (.slice mo mem.length mc) mem ws (hmk _ kws) (by omega) _ ?_; intro cv wm ownm hbm; obtain ⟨co, cc, rfl⟩ := owns_slice ownm; have kwm := kws.below hbm kws.size; have rRm := rRs.keep hbm; have z0 := rRm.cell (i := 0) rfl; have f0 := rRm.frozen 0; have z1 := rRm.cell (i := 1) rfl; have f1 := rRm.frozen 1; have z2 := rRm.cell (i := 2) rfl; have f2 := rRm.frozen 2; have z3 := rRm.cell (i := 3) rfl; have f3 := rRm.frozen 3; have z4 := rRm.cell (i := 4) rfl; have f4 := rRm.frozen 4))
      · have hzm := hbm.size
        have hzs := hbs.size
        have hzd : wr.drew.heap.size = wr.heap.size := rfl
        have ownr : ws.ownsRow W.heap.size 3 1 (.slice lo (args.length + j) lc) (args.length + j) (ints (regs0 args j)) := owns_below (owns_below (w := wr.drew) own hbm (Nat.le_refl _)) hbs (Nat.le_refl _)
        have ownc := owns_below ownm hbs (Nat.le_refl _)
        have owns2 := owns
        have apc : ∀ g, (Value.slice lo (args.length + j) lc).ownBlock = some g → (Value.slice co mem.length cc).ownBlock ≠ some g := fun g e e2 => by have q1 := (own.lt g e).2; have q2 := (ownm.lt g e2).1; omega
        have aps : ∀ g, (Value.slice lo (args.length + j) lc).ownBlock = some g → (Value.slice so' spill.length sc').ownBlock ≠ some g := fun g e e2 => by have q1 := (own.lt g e).2; have q2 := (owns.lt g e2).1; omega
        have acs : ∀ g, (Value.slice co mem.length cc).ownBlock = some g → (Value.slice so' spill.length sc').ownBlock ≠ some g := fun g e e2 => by have q1 := (ownm.lt g e).2; have q2 := (owns.lt g e2).1; omega
        have gec : ∀ g, (Value.slice co mem.length cc).ownBlock = some g → W.heap.size ≤ g := fun g e => by have q2 := (ownm.lt g e).1; omega
        have ges : ∀ g, (Value.slice so' spill.length sc').ownBlock = some g → W.heap.size ≤ g := fun g e => by have q2 := (owns.lt g e).1; omega
        have ger : ∀ g, (Value.slice lo (args.length + j) lc).ownBlock = some g → W.heap.size ≤ g := fun g e => (own.lt g e).1
        have hzl := kws.size
        have hB0 : Bunch (fun g => g < w.heap.size) ws (.slice lo (args.length + j) lc) (.slice co mem.length cc) (.slice so' spill.length sc') (.slice none 0 0) ⟨regs0 args j, mem, spill, [], 0⟩ :=
          ⟨by show World.ownsRow _ _ _ _ _ _ _; simp only [regs0_length]; exact owns_base ownr (Nat.zero_le _), owns_base ownc (Nat.zero_le _), owns_base owns2 (Nat.zero_le _), World.ownsRow_nil _ _ _ _, apc, aps, (fun g _ e2 => by simp [Value.ownBlock] at e2), acs, (fun g _ e2 => by simp [Value.ownBlock] at e2), (fun g _ e2 => by simp [Value.ownBlock] at e2),
            (fun g e c => by have := ger g e; omega), (fun g e c => by have := gec g e; omega), (fun g e c => by have := ges g e; omega), (fun g e c => by simp [Value.ownBlock] at e), (fun g c => by omega)⟩
        have hB5 := ((((hB0.far rRs (by decide) 0 (.slice lo (args.length + j) lc)).far (rRs.set 0 _) (by decide) 1 (.slice co mem.length cc)).far ((rRs.set 0 _).set 1 _) (by decide) 2 (.slice so' spill.length sc')).far (((rRs.set 0 _).set 1 _).set 2 _) (by decide) 3 (.slice none 0 0)).far ((((rRs.set 0 _).set 1 _).set 2 _).set 3 _) (by decide) 4 (.int .i64 0)
        have hK5 := ((((kws.setCell (p := ⟨w.heap.size + 2, 0, none⟩) (.inl rfl) (.slice lo (args.length + j) lc)).setCell (p := ⟨w.heap.size + 2, 1, none⟩) (.inl rfl) (.slice co mem.length cc)).setCell (p := ⟨w.heap.size + 2, 2, none⟩) (.inl rfl) (.slice so' spill.length sc')).setCell (p := ⟨w.heap.size + 2, 3, none⟩) (.inl rfl) (.slice none 0 0)).setCell (p := ⟨w.heap.size + 2, 4, none⟩) (.inl rfl) (.int .i64 0)
        have hb5 := (hbW.trans (hbel.mono (by omega))).trans (hK5.toBelow (B := w.heap.size) (by omega) (fun g hg => by omega))
        have HF := hp _ _ _ _ hB5 hb5
        clear hp hB0 hB5 hK5 hb5 own ownm owns ownr ownc owns2 apc aps acs gec ges ger rP rI rR rRr rRd rRm rRs hbm hbs kwm kws kd hbel hbW
        have HF' : Hid _ := HF
        clear HF
        go_wp2
        (try simp only [Exit.inBlock, Exit.then])
        refine bodyPost_ret (v := .agg #[.slice lo (args.length + j) lc, .slice co mem.length cc, .slice so' spill.length sc', .slice none 0 0, .int .i64 0]) ?_ rfl ?_
        · simp [results, Tryz.results67, go_sem, y0, y1, y2, y3, y4]
        · simp only [show w.heap.size + 1 + 1 = w.heap.size + 2 from rfl]
          with_reducible exact HF'.out

end Go.Proofs.YtblhmeidbjigaabGreatDoor

/- What Run answers, pure. -/
set_option linter.unusedSimpArgs false
set_option linter.unusedVariables false
namespace Go.Proofs.YtblhmeidbjigaabGreatDoor
open Go.RowKit

def outZ : OutD := ⟨0, 0, [], []⟩

def fits (p : ProgD) (args mem spill : List Int) : Prop := (args.length : Int) = p.args ∧ (mem.length : Int) = p.data ∧ (spill.length : Int) = p.slots

def begins (p : ProgD) (args mem spill : List Int) : RunD := ⟨regs0 args (p.regs - args.length).toNat, mem, spill, [], 0⟩

/-- The document's answer: the outcome and the error. -/
def RunAns (s : ByteArray) (args mem spill : List Int) (fuel : Int) (o : OutD) (e : Int) : Prop :=
  (e = 1 ∧ o = outZ ∧ ∀ p, progGood p = true → str (progText p) ≠ s) ∨
  ∃ p, progGood p = true ∧ str (progText p) = s ∧
    ((e = 3 ∧ o = outZ ∧ ¬ fits p args mem spill) ∨ (e = 4 ∧ o = outZ ∧ fits p args mem spill ∧ ¬ (0 ≤ fuel ∧ fuel ≤ 300)) ∨
      (e = 0 ∧ fits p args mem spill ∧ (0 ≤ fuel ∧ fuel ≤ 300) ∧ o = runN p.blocks fuel.toNat 0 (begins p args mem spill)))

theorem RunAns.one {s : ByteArray} {args mem spill : List Int} {fuel : Int} {o o' : OutD} {e e' : Int} (h : RunAns s args mem spill fuel o e) (h' : RunAns s args mem spill fuel o' e') : o = o' ∧ e = e' := by
  rcases h with ⟨rfl, rfl, h1⟩ | ⟨p, hg, ht, h1⟩
  · rcases h' with ⟨rfl, rfl, _⟩ | ⟨q, hg, ht, _⟩
    · exact ⟨rfl, rfl⟩
    · exact absurd ht (h1 q hg)
  · rcases h' with ⟨rfl, rfl, h2⟩ | ⟨q, hg', ht', h2⟩
    · exact absurd ht (h2 p hg)
    · obtain rfl : p = q := prog_one hg hg' (ht.trans ht'.symm)
      rcases h1 with ⟨rfl, rfl, a⟩ | ⟨rfl, rfl, a, b⟩ | ⟨rfl, a, b, rfl⟩
      · rcases h2 with ⟨rfl, rfl, _⟩ | ⟨_, _, c, _⟩ | ⟨_, c, _, _⟩
        · exact ⟨rfl, rfl⟩
        · exact absurd c a
        · exact absurd c a
      · rcases h2 with ⟨_, _, c⟩ | ⟨rfl, rfl, _, _⟩ | ⟨_, _, c, _⟩
        · exact absurd a c
        · exact ⟨rfl, rfl⟩
        · exact absurd c b
      · rcases h2 with ⟨_, _, c⟩ | ⟨_, _, _, c⟩ | ⟨rfl, _, _, rfl⟩
        · exact absurd a c
        · exact absurd b c
        · exact ⟨rfl, rfl⟩

theorem owns_rebase {w : World} {B : Nat} {e : TypeId} {sz : Nat} {v : Value} {n : Nat} {xs : List Value} (h : w.ownsRow 0 e sz v n xs) (hB : ∀ g, v.ownBlock = some g → B ≤ g) : w.ownsRow B e sz v n xs := by
  refine ⟨h.1, ?_⟩
  rcases h.2 with h2 | ⟨g, cap, cur, rfl, hg, r⟩
  · exact .inl h2
  · exact .inr ⟨g, cap, cur, rfl, hB g rfl, r⟩

/-- What comes out of Run. -/
structure RunOut (w w' : World) (o : OutD) (mv lv : Value) : Prop where
  mem : w'.ownsRow w.heap.size 3 1 mv o.mem.length (ints o.mem)
  leak : w'.ownsRow w.heap.size 3 1 lv o.leak.length (ints o.leak)
  apart : ∀ g, mv.ownBlock = some g → lv.ownBlock ≠ some g
  below : Below w.heap.size w w'

theorem out4_below {B : Nat} {w w' : World} (h : Below B w w') {R : Nat} (hR : B ≤ R) (k r : Int) (m l : Value) : Below B w (out4 w' R k r m l) :=
  (((h.setCell hR _).setCell hR _).setCell hR _).setCell hR _

theorem runOut_nil {w w' : World} (h : Below w.heap.size w w') : RunOut w w' outZ (.slice none 0 0) (.slice none 0 0) :=
  ⟨World.ownsRow_nil _ _ _ _, World.ownsRow_nil _ _ _ _, fun g e => by simp [Value.ownBlock] at e, h⟩

theorem begins_sized {p : ProgD} {args mem spill : List Int} (hg : progGood p = true) (h : fits p args mem spill) : Sized (begins p args mem spill) p.regs p.data p.slots := by
  simp only [progGood, Bool.and_eq_true, decide_eq_true_eq] at hg
  obtain ⟨h1, h2, h3⟩ := h
  refine ⟨?_, h2, h3⟩
  show ((regs0 args (p.regs - args.length).toNat).length : Int) = p.regs
  rw [regs0_length]
  omega

end Go.Proofs.YtblhmeidbjigaabGreatDoor

/- Twins end alike: pure. -/
set_option linter.unusedSimpArgs false
set_option linter.unusedVariables false
noncomputable section
namespace Go.Proofs.YtblhmeidbjigaabGreatDoor
open Go.RowKit Classical

theorem stI_wide {l : List Int} (h : ∀ x ∈ l, W64 x) {v : Int} (hv : W64 v) (i : Int) : ∀ x ∈ stI l i v, W64 x := by
  intro x hx
  rcases List.mem_or_eq_of_mem_set hx with h1 | h1
  · exact h x h1
  · rw [h1]; exact hv

theorem WideR.step {s : RunD} (h : WideR s) {o : OpD} (hb : -1000 ≤ o.b ∧ o.b ≤ 1000) (hc : -1000 ≤ o.c ∧ o.c ≤ 1000) : WideR (stepOp s o) := by
  have r := fun i => rg_wide h.regs i
  have c := fun i => rg_wide h.cells i
  have k := fun i => rg_wide h.slots i
  unfold stepOp
  repeat' split
  · exact ⟨stI_wide h.regs (w64_small (by omega)) _, h.cells, h.slots⟩
  · exact ⟨stI_wide h.regs (r _) _, h.cells, h.slots⟩
  · exact ⟨stI_wide h.regs (c _) _, h.cells, h.slots⟩
  · exact ⟨h.regs, h.cells, h.slots⟩
  · exact ⟨h.regs, stI_wide h.cells (r _) _, h.slots⟩
  · exact ⟨h.regs, h.cells, h.slots⟩
  · exact ⟨h.regs, h.cells, stI_wide h.slots (r _) _⟩
  · exact ⟨stI_wide h.regs (k _) _, h.cells, h.slots⟩
  · exact ⟨h.regs, h.cells, h.slots⟩
  · exact ⟨stI_wide h.regs (w64_calc _ _ _) _, h.cells, h.slots⟩
  · exact ⟨stI_wide h.regs (w64_calc _ _ _) _, h.cells, h.slots⟩

theorem WideR.doOps {regs slots : Int} (hr : regs ≤ 100) (hs : slots ≤ 100) (l : List OpD) (hg : opsGood regs slots l = true) {s : RunD} (h : WideR s) : WideR (doOps l s) := by
  induction l generalizing s with
  | nil => exact h
  | cons o t ih =>
    simp only [opsGood, List.all_cons, Bool.and_eq_true] at hg
    have hf : (-1000 ≤ o.b ∧ o.b ≤ 1000) ∧ (-1000 ≤ o.c ∧ o.c ≤ 1000) := by
      have hg1 := hg.1
      unfold opGood at hg1
      repeat' split at hg1
      all_goals simp [below] at hg1
      all_goals omega
    simp only [Go.Proofs.YtblhmeidbjigaabGreatDoor.doOps]
    split
    · exact ih hg.2 (h.step hf.1 hf.2)
    · exact h

theorem WideR.on {s : RunD} (h : WideR s) (e : EndD) : WideR (goesOn s e) := by
  unfold goesOn
  split
  · exact ⟨h.regs, h.cells, h.slots⟩
  · exact h

/-- The end of a block; a Branch whose register's term is a number counts as a Jump. -/
def effT (e : EndD) (t : TD) : EndD := if e.kind = 2 then (match t.isNum with | some n => ⟨1, 0, if n ≠ 0 then e.x else e.y, 0⟩ | none => e) else e

section
variable (p q : ProgD) (h : List PingD) (b : Nat)
def srcOps : List OpD := bops p.blocks (hsrc h b).toNat
def srcT (i : Int) : TD := behindT p.regs 0 (plainNames p.regs 0) (srcOps p h b) (srcOps p h b).length i
def tgtT (i : Int) : TD := behindT q.regs q.slots (namesOf (hpairs h b) (q.regs + q.slots).toNat) (bops q.blocks b) (bops q.blocks b).length i
def srcEnd : EndD := effT (bfin p.blocks (hsrc h b).toNat) (srcT p h b (bfin p.blocks (hsrc h b).toNat).r)
def tgtEnd : EndD := effT (bfin q.blocks b) (tgtT q h b (bfin q.blocks b).r)

/-- An edge: where the source goes on with c and the target with d. -/
def edgeOk (c d : Int) : Prop := hsrc h d.toNat = c ∧ ∀ x ∈ hpairs h d.toNat, srcT p h b x.reg = tgtT q h b x.place

/-- P12 (4), of block b of the target. -/
structure BlockOk : Prop where
  src : 0 ≤ hsrc h b ∧ hsrc h b < p.blocks.length
  pairs : ∀ x ∈ hpairs h b, 0 ≤ x.reg ∧ x.reg < p.regs ∧ 0 ≤ x.place ∧ x.place < q.regs + q.slots
  marks : marksD p.regs 0 p.data (plainNames p.regs 0) (srcOps p h b) (srcOps p h b).length = marksD q.regs q.slots q.data (namesOf (hpairs h b) (q.regs + q.slots).toNat) (bops q.blocks b) (bops q.blocks b).length
  cells : srcT p h b p.regs = tgtT q h b (q.regs + q.slots)
  kind : (srcEnd p h b).kind = (tgtEnd q h b).kind
  term : ((srcEnd p h b).kind = 2 ∨ (srcEnd p h b).kind = 3) → srcT p h b (srcEnd p h b).r = tgtT q h b (tgtEnd q h b).r
  edgeX : (srcEnd p h b).kind ≠ 3 → edgeOk p q h b (srcEnd p h b).x (tgtEnd q h b).x
  edgeY : (srcEnd p h b).kind = 2 → edgeOk p q h b (srcEnd p h b).y (tgtEnd q h b).y
end

/-- What a run answers of kind, result and cells. -/
def sameEnd (o o' : OutD) : Prop := o.kind = o'.kind ∧ o.result = o'.result ∧ o.mem = o'.mem

theorem effT_kind {e : EndD} {t : TD} (he : e.kind = 1 ∨ e.kind = 2 ∨ e.kind = 3) : ((effT e t).kind = 3 ↔ e.kind = 3) ∧ (e.kind = 3 → effT e t = e) := by
  unfold effT
  by_cases h2 : e.kind = 2
  · rw [if_pos h2]
    split
    · exact ⟨⟨fun c => by simp at c, fun c => by omega⟩, fun c => by omega⟩
    · exact ⟨Iff.rfl, fun _ => rfl⟩
  · rw [if_neg h2]; exact ⟨Iff.rfl, fun _ => rfl⟩

theorem end_kind {regs n : Int} {e : EndD} (h : endGood regs n e = true) : e.kind = 1 ∨ e.kind = 2 ∨ e.kind = 3 := by
  unfold endGood at h
  repeat' split at h
  all_goals first | omega | simp at h

theorem end_reg {regs n : Int} {e : EndD} (h : endGood regs n e = true) (hk : e.kind = 2 ∨ e.kind = 3) : 0 ≤ e.r ∧ e.r < regs := by
  unfold endGood at h
  rcases hk with hk | hk
  · simp [hk, below] at h; omega
  · simp [hk, below] at h; omega

/-- Where a block goes on, by its end that counts. -/
theorem goes_eff {s : RunD} {e : EndD} {t : TD} (hn : e.kind = 2 → ∀ n, t = tnum n → rg s.regs e.r = n) (h3 : e.kind ≠ 3) (he : e.kind = 1 ∨ e.kind = 2 ∨ e.kind = 3) :
    ((effT e t).kind = 1 ∧ goesTo s e = (effT e t).x) ∨ ((effT e t).kind = 2 ∧ effT e t = e ∧ goesTo s e = if rg s.regs e.r = 0 then e.y else e.x) := by
  unfold effT
  by_cases h2 : e.kind = 2
  · rw [if_pos h2]
    cases ht : t.isNum with
    | none => right; exact ⟨h2, rfl, by simp [goesTo, h2]⟩
    | some n =>
      left
      have := hn h2 n (isNum_some ht)
      refine ⟨rfl, ?_⟩
      simp only [goesTo, h2, if_true]
      rw [this]
      by_cases h0 : n = 0
      · simp [h0]
      · simp [h0]
  · left
    rw [if_neg h2]
    exact ⟨by omega, by simp [goesTo, h2]⟩

/-- P13, block by block. -/
theorem twins_alike {p q : ProgD} {h : List PingD} (gp : progGood p = true) (gq : progGood q = true) (hp0 : p.slots = 0) (hd : p.data = q.data) (hok : ∀ b, b < q.blocks.length → BlockOk p q h b) :
    ∀ (f : Nat) (b : Nat) (s t : RunD), b < q.blocks.length → Sized s p.regs p.data 0 → Sized t q.regs q.data q.slots → WideR s → WideR t → s.trap = 0 → t.trap = 0 → Alike (hpairs h b) q.regs s t →
      sameEnd (runN p.blocks f (hsrc h b) s) (runN q.blocks f b t) := by
  simp only [progGood, Bool.and_eq_true, decide_eq_true_eq] at gp gq
  obtain ⟨⟨⟨⟨⟨p1, p2⟩, p3⟩, p4⟩, p5⟩, p6⟩ := gp
  obtain ⟨⟨⟨⟨⟨q1, q2⟩, q3⟩, q4⟩, q5⟩, q6⟩ := gq
  rw [hp0] at p6
  intro f
  induction f with
  | zero =>
    intro b s t hb hzs hzt hws hwt ts tt ha
    exact ⟨rfl, rfl, ha.cells⟩
  | succ f ih =>
    intro b s t hb hzs hzt hws hwt ts tt ha
    have ok := hok b hb
    obtain ⟨gs12, gsops, gsend⟩ := blocksGood_at p6 (k := (hsrc h b).toNat) (by have := ok.src; omega)
    obtain ⟨gt12, gtops, gtend⟩ := blocksGood_at q6 hb
    have hpb : ∀ x ∈ hpairs h b, 0 ≤ x.reg ∧ x.reg ≤ 1000 := fun x hx => by have := ok.pairs x hx; omega
    have mk := ok.marks
    rw [hd] at mk hzs
    obtain ⟨htr, hrest⟩ := alike_block hpb (by omega) (by omega) (by omega) hzs hzt hws hwt ts tt ha (os := srcOps p h b) (ot := bops q.blocks b) gsops gtops mk
    have e1 : bops p.blocks (hsrc h b).toNat = srcOps p h b := rfl
    have e2 : ((b : Int)).toNat = b := by omega
    simp only [runN]
    rw [e1, e2]
    by_cases h0 : (doOps (srcOps p h b) s).trap = 0
    · obtain ⟨hreg, hcell, hnS, hnT⟩ := hrest h0
      have hcells := hcell ok.cells
      have h0t : (doOps (bops q.blocks b) t).trap = 0 := by rw [← htr]; exact h0
      simp only [h0, h0t, ne_eq, not_true_eq_false, if_false]
      have ks := end_kind gsend
      have kt := end_kind gtend
      have k3s := (effT_kind (t := srcT p h b (bfin p.blocks (hsrc h b).toNat).r) ks)
      have k3t := (effT_kind (t := tgtT q h b (bfin q.blocks b).r) kt)
      have hkind := ok.kind
      by_cases h3 : bek p.blocks (hsrc h b).toNat = 3
      · have h3s : (srcEnd p h b).kind = 3 := k3s.1.2 h3
        have h3t : bek q.blocks b = 3 := k3t.1.1 (by show (tgtEnd q h b).kind = 3; rw [← hkind]; exact h3s)
        simp only [h3, h3t, if_true]
        have es : srcEnd p h b = bfin p.blocks (hsrc h b).toNat := k3s.2 h3
        have et : tgtEnd q h b = bfin q.blocks b := k3t.2 h3t
        have htm := ok.term (.inr h3s)
        rw [es, et] at htm
        have r1 := end_reg gsend (.inr h3)
        have r2 := end_reg gtend (.inr h3t)
        have := hreg _ (bfin q.blocks b).r r1.1 r1.2 r2.1 (by omega) htm
        refine ⟨rfl, ?_, hcells⟩
        show rg _ (bfin p.blocks (hsrc h b).toNat).r = rg _ (bfin q.blocks b).r
        rw [this]
        simp [placeV, r2.2]
      · have h3t : bek q.blocks b ≠ 3 := fun c => h3 (k3s.1.1 (by show (srcEnd p h b).kind = 3; rw [hkind]; exact k3t.1.2 c))
        simp only [h3, h3t, if_false]
        have h3s : (srcEnd p h b).kind ≠ 3 := fun c => h3 (k3s.1.1 c)
        have gS := goes_eff (s := doOps (srcOps p h b) s) (e := bfin p.blocks (hsrc h b).toNat) (t := srcT p h b (bfin p.blocks (hsrc h b).toNat).r) (fun hk2 n hn => by
          have r1 := end_reg gsend (.inl hk2)
          exact hnS _ n r1.1 r1.2 hn) h3 ks
        have gT := goes_eff (s := doOps (bops q.blocks b) t) (e := bfin q.blocks b) (t := tgtT q h b (bfin q.blocks b).r) (fun hk2 n hn => by
          have r1 := end_reg gtend (.inl hk2)
          exact hnT _ n r1.1 r1.2 hn) h3t kt
        have zs := (hzs.doOps (srcOps p h b)).on (bfin p.blocks (hsrc h b).toNat)
        have zt := (hzt.doOps (bops q.blocks b)).on (bfin q.blocks b)
        have ws := (hws.doOps (show p.regs ≤ 100 by omega) (show (0 : Int) ≤ 100 by omega) (srcOps p h b) gsops).on (bfin p.blocks (hsrc h b).toNat)
        have wt := (hwt.doOps (show q.regs ≤ 100 by omega) (show q.slots ≤ 100 by omega) (bops q.blocks b) gtops).on (bfin q.blocks b)
        obtain ⟨t0, t1⟩ := goesTo_in (s := doOps (bops q.blocks b) t) gtend h3t
        have go : ∀ c d : Int, goesTo (doOps (srcOps p h b) s) (bfin p.blocks (hsrc h b).toNat) = c → goesTo (doOps (bops q.blocks b) t) (bfin q.blocks b) = d → edgeOk p q h b c d →
            sameEnd (runN p.blocks f (goesTo (doOps (srcOps p h b) s) (bfin p.blocks (hsrc h b).toNat)) (goesOn (doOps (srcOps p h b) s) (bfin p.blocks (hsrc h b).toNat))) (runN q.blocks f (goesTo (doOps (bops q.blocks b) t) (bfin q.blocks b)) (goesOn (doOps (bops q.blocks b) t) (bfin q.blocks b))) := by
          intro c d hc hdd hedge
          rw [hc, hdd]
          rw [hdd] at t0 t1
          obtain ⟨n, rfl⟩ := Int.eq_ofNat_of_zero_le t0
          obtain ⟨h1, h2⟩ := hedge
          have e3 : ((n : Int)).toNat = n := by omega
          rw [e3] at h1 h2
          rw [← h1]
          have okn := hok n (by omega)
          have fr : ∀ (u : RunD) (e : EndD), (goesOn u e).regs = u.regs ∧ (goesOn u e).slots = u.slots ∧ (goesOn u e).cells = u.cells := by
            intro u e; unfold goesOn; split <;> exact ⟨rfl, rfl, rfl⟩
          refine ih n _ _ (by omega) (by rw [hd]; exact zs) zt ws wt (by rw [goesOn_trap]; exact h0) (by rw [goesOn_trap]; exact h0t) ⟨fun x hx => ?_, ?_⟩
          · have hx2 := okn.pairs x hx
            have := hreg x.reg x.place hx2.1 hx2.2.1 hx2.2.2.1 hx2.2.2.2 (h2 x hx)
            rw [(fr _ _).1, this]
            unfold placeV
            rw [(fr _ _).1, (fr _ _).2.1]
          · rw [(fr _ _).2.2, (fr _ _).2.2]; exact hcells
        rcases gS with ⟨a1, a2⟩ | ⟨a1, a2, a3⟩
        · rcases gT with ⟨c1, c2⟩ | ⟨c1, c2, c3⟩
          · exact go _ _ a2 c2 (ok.edgeX h3s)
          · exfalso
            have x1 : (srcEnd p h b).kind = 1 := a1
            have x2 : (tgtEnd q h b).kind = 2 := c1
            omega
        · rcases gT with ⟨c1, c2⟩ | ⟨c1, c2, c3⟩
          · exfalso
            have x1 : (srcEnd p h b).kind = 2 := a1
            have x2 : (tgtEnd q h b).kind = 1 := c1
            omega
          · have es : srcEnd p h b = bfin p.blocks (hsrc h b).toNat := a2
            have et : tgtEnd q h b = bfin q.blocks b := c2
            have k2s : (bfin p.blocks (hsrc h b).toNat).kind = 2 := by rw [← es]; exact a1
            have k2t : (bfin q.blocks b).kind = 2 := by rw [← et]; exact c1
            have htm := ok.term (.inl a1)
            rw [es, et] at htm
            have r1 := end_reg gsend (.inl k2s)
            have r2 := end_reg gtend (.inl k2t)
            have hv := hreg _ (bfin q.blocks b).r r1.1 r1.2 r2.1 (by omega) htm
            have hv2 : rg (doOps (srcOps p h b) s).regs (bfin p.blocks (hsrc h b).toNat).r = rg (doOps (bops q.blocks b) t).regs (bfin q.blocks b).r := by rw [hv]; simp [placeV, r2.2]
            rw [hv2] at a3
            have ex := ok.edgeX h3s
            have ey := ok.edgeY a1
            rw [es, et] at ex ey
            by_cases hz : rg (doOps (bops q.blocks b) t).regs (bfin q.blocks b).r = 0
            · rw [if_pos hz] at a3 c3
              exact go _ _ a3 c3 ey
            · rw [if_neg hz] at a3 c3
              exact go _ _ a3 c3 ex
    · have h0t : (doOps (bops q.blocks b) t).trap ≠ 0 := by rw [← htr]; exact h0
      simp only [ne_eq, h0, h0t, not_false_eq_true, if_true]
      exact ⟨htr, rfl, rfl⟩

end Go.Proofs.YtblhmeidbjigaabGreatDoor

/- Twins begin alike: P13, pure. -/
set_option linter.unusedSimpArgs false
set_option linter.unusedVariables false
noncomputable section
namespace Go.Proofs.YtblhmeidbjigaabGreatDoor
open Go.RowKit Classical

theorem rg_regs0 (args : List Int) (n : Nat) {i : Int} (h0 : 0 ≤ i) : rg (regs0 args n) i = if i < args.length then rg args i else 0 := by
  unfold rg regs0
  simp only [List.getD]
  split
  · rw [List.getElem?_append_left (by omega)]
  · rw [List.getElem?_append_right (by omega), List.getElem?_replicate]
    split <;> simp

theorem begins_wide {p : ProgD} {args mem spill : List Int} (ha : ∀ x ∈ args, W64 x) (hm : ∀ x ∈ mem, W64 x) (hs : ∀ x ∈ spill, W64 x) : WideR (begins p args mem spill) := by
  refine ⟨fun x hx => ?_, hm, hs⟩
  rcases List.mem_append.1 hx with h | h
  · exact ha x h
  · rw [(List.mem_replicate.1 h).2]; exact w64_small (by omega)

/-- P13: what is taken for twins ends alike: kind, result, cells, at any fuel, whatever the target's slots hold. -/
theorem twins_sound {p q : ProgD} {h : List PingD} (gp : progGood p = true) (gq : progGood q = true) (hp0 : p.slots = 0) (hd : p.data = q.data) (hok : ∀ b, b < q.blocks.length → BlockOk p q h b)
    (hs0 : hsrc h 0 = 0) (hst : ∀ x ∈ hpairs h 0, x.place < q.regs ∧ (x.reg = x.place ∨ (p.args ≤ x.reg ∧ p.args ≤ x.place)))
    {args mem spill : List Int} (fp : fits p args mem []) (fq : fits q args mem spill) (ha : ∀ x ∈ args, W64 x) (hm : ∀ x ∈ mem, W64 x) (hs : ∀ x ∈ spill, W64 x) (f : Nat) :
    sameEnd (runN p.blocks f 0 (begins p args mem [])) (runN q.blocks f 0 (begins q args mem spill)) := by
  have zp := begins_sized gp fp
  have zq := begins_sized gq fq
  rw [hp0] at zp
  have hb : 0 < q.blocks.length := by
    simp only [progGood, Bool.and_eq_true, decide_eq_true_eq] at gq
    omega
  have hal : Alike (hpairs h 0) q.regs (begins p args mem []) (begins q args mem spill) := by
    refine ⟨fun x hx => ?_, rfl⟩
    obtain ⟨x1, x2⟩ := hst x hx
    have hx2 := (hok 0 hb).pairs x hx
    unfold placeV
    rw [if_pos x1]
    show rg (regs0 args _) x.reg = rg (regs0 args _) x.place
    rw [rg_regs0 args _ hx2.1, rg_regs0 args _ hx2.2.2.1]
    have hl := fp.1
    rcases x2 with e | ⟨e1, e2⟩
    · rw [e]
    · rw [if_neg (by omega), if_neg (by omega)]
  have := twins_alike gp gq hp0 hd hok f 0 _ _ hb zp zq (begins_wide ha hm (fun x hx => by cases hx)) (begins_wide ha hm hs) rfl rfl hal
  rw [hs0] at this
  exact this

end Go.Proofs.YtblhmeidbjigaabGreatDoor

/- Runs with more fuel, pure. -/
set_option linter.unusedSimpArgs false
set_option linter.unusedVariables false
namespace Go.Proofs.YtblhmeidbjigaabGreatDoor
open Go.RowKit

theorem step_trap {s : RunD} (o : OpD) (h : s.trap = 0) : (stepOp s o).trap = 0 ∨ (stepOp s o).trap = 2 ∨ (stepOp s o).trap = 3 := by
  unfold stepOp
  repeat' split
  all_goals simp [RunD.reg, RunD.out, RunD.die, RunD.cell, RunD.slot, h]

theorem doOps_kinds (l : List OpD) {s : RunD} (h : s.trap = 0) : (doOps l s).trap = 0 ∨ (doOps l s).trap = 2 ∨ (doOps l s).trap = 3 := by
  induction l generalizing s with
  | nil => exact .inl h
  | cons o r ih =>
    simp only [doOps, h, if_true]
    rcases step_trap o h with q | q | q
    · exact ih q
    · rw [doOps_trap r (by omega)]; exact .inr (.inl q)
    · rw [doOps_trap r (by omega)]; exact .inr (.inr q)

theorem runN_kind (bs : List BlockD) (f : Nat) (i : Int) {s : RunD} (h : s.trap = 0) : 1 ≤ (runN bs f i s).kind ∧ (runN bs f i s).kind ≤ 4 := by
  induction f generalizing i s with
  | zero => simp [runN]
  | succ f ih =>
    have hk := doOps_kinds (bops bs i.toNat) h
    simp only [runN]
    split
    · simp only; omega
    · rename_i ht
      split
      · simp
      · exact ih _ (by rw [goesOn_trap]; omega)

end Go.Proofs.YtblhmeidbjigaabGreatDoor
