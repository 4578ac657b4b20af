/- The machine begins: lists of its own. -/
import Derived.Test.YtblhmeidbjigaaaRows
import Derived.WalkKit
import Derived.WalkSpells
import Derived.WalkLawsBesides
import Derived.Laws.BytesArg
import Derived.Deep.QuietTactic
import Derived.BigQuiet
import Derived.Deep.RegionHeld3
import Derived.Maps.AppendAt
import Derived.StillTailTactics
import Derived.Test.YtblhmeidbjigaaaMStoToMCopFurther

set_option linter.unusedSimpArgs false
set_option linter.unusedVariables false
namespace Go.Proofs.Ytblhmeidbjigaaa
open Go.RowKit

set_option maxRecDepth 100000 in
set_option maxHeartbeats 400000 in
theorem begin_cps (r a2 a3 : Int) (pv av mv sv : Value) (args mem spill : List Int) (w : World) (ha : RdWords w av args) (hm : RdWords w mv mem) (hs : RdWords w sv spill) (hla : (args.length : Int) ≤ r) (hr : r ≤ 8) (hlm : mem.length ≤ 8) (hls : spill.length ≤ 8) (hpv : ∃ po pn pc, pv = .slice po pn pc) (Post : Ending → World → Prop)
    (hp : ∀ rv cv sv w', Bunch (fun g => g < w.heap.size) w' rv cv sv (.slice none 0 0) ⟨regs0 args (r - args.length).toNat, mem, spill, [], 0⟩ → Below w.heap.size w w' → Post (.returned (.agg #[rv, cv, sv, .slice none 0 0, .int .i64 0])) w') :
    Calls Try.prog 82 #[.agg #[.int .i64 args.length, .int .i64 r, .int .i64 a2, .int .i64 a3, pv], .agg #[av, mv, sv]] w Post := by
  obtain ⟨i0, ii, iz0, iz1, iz2⟩ := info_parts Try.infoInt
  obtain ⟨po, pn, pc, rfl⟩ := hpv
  obtain ⟨ao, ac, rfl, _, _⟩ := id ha
  obtain ⟨mo, mc, rfl, _, _⟩ := id hm
  obtain ⟨so, sc, rfl, _, _⟩ := id hs
  obtain ⟨W, hW⟩ : ∃ W, W = ((w.alloc (.cells #[.int .i64 args.length, .int .i64 r, .int .i64 a2, .int .i64 a3, .slice po pn pc] 24)).alloc (.cells #[.slice ao args.length ac, .slice mo mem.length mc, .slice so spill.length sc] 52)).alloc (.cells #[.slice none 0 0, .slice none 0 0, .slice none 0 0, .slice none 0 0, .int .i64 0] 123) := ⟨_, rfl⟩
  have hzW : w.heap.size + 3 ≤ W.heap.size := by rw [hW]; simp
  have rP : Row W w.heap.size 24 [.int .i64 args.length, .int .i64 r, .int .i64 a2, .int .i64 a3, .slice po pn pc] := by
    rw [hW]
    have q : Row (w.alloc (.cells #[.int .i64 args.length, .int .i64 r, .int .i64 a2, .int .i64 a3, .slice po pn pc] 24)) w.heap.size 24 [.int .i64 args.length, .int .i64 r, .int .i64 a2, .int .i64 a3, .slice po pn pc] := heap_alloc_new w _
    exact (q.alloc _).alloc _
  have rI : Row W (w.heap.size + 1) 52 [.slice ao args.length ac, .slice mo mem.length mc, .slice so spill.length sc] := by
    rw [hW]
    have q : Row ((w.alloc (.cells #[.int .i64 args.length, .int .i64 r, .int .i64 a2, .int .i64 a3, .slice po pn pc] 24)).alloc (.cells #[.slice ao args.length ac, .slice mo mem.length mc, .slice so spill.length sc] 52)) (w.heap.size + 1) 52 [.slice ao args.length ac, .slice mo mem.length mc, .slice so spill.length sc] := heap_alloc2_new w _ _
    exact q.alloc _
  have rR : Row W (w.heap.size + 2) 123 zMach := by
    rw [hW]
    have q := heap_alloc2_new (w.alloc (.cells #[.int .i64 args.length, .int .i64 r, .int .i64 a2, .int .i64 a3, .slice po pn pc] 24)) (.cells #[.slice ao args.length ac, .slice mo mem.length mc, .slice so spill.length sc] 52) (.cells #[.slice none 0 0, .slice none 0 0, .slice none 0 0, .slice none 0 0, .int .i64 0] 123)
    simp only [World.size_alloc] at q
    exact q
  have hbW : Below w.heap.size w W := by rw [hW]; exact (((Below.refl w.heap.size w).alloc (Nat.le_refl _) _).alloc (by simp) _).alloc (by simp; omega) _
  have x0 := rI.cell (i := 0) rfl
  go_enter Try.func82, Try.ntmps82
  go_wp2_with fail
  rw [← hW]
  clear hW
  refine copied_cps _ args W (ha.keep hbW) (by omega) _ ?_
  intro rv0 w1 own1 hb1
  obtain ⟨ro0, rc0, rfl⟩ := owns_slice own1
  have p0 := (rP.keep hb1).cell (i := 0) rfl
  clear x0
  go_wp2
  go_loopw [5, 6] (fun o i wr => ∃ (j : Nat), (args.length : Int) + j ≤ r ∧ i = .int .i64 ((args.length + j : Nat) : Int) ∧ wr.ownsRow W.heap.size 3 1 o (args.length + j) (ints (regs0 args j)) ∧ Below W.heap.size W wr)
    (fun _ i _ => r.toNat - (intOf i).toNat)
  case atStart => exact ⟨0, by omega, by simp, by simpa [regs0] using own1, hb1⟩
  case round =>
    clear own1 hb1 p0 w1
    obtain ⟨j, hj, rfl, own, hbel⟩ := hrel
    obtain ⟨lo, lc, rfl⟩ := owns_slice own
    have hz := hbel.size
    have p1 := (rP.keep hbel).cell (i := 1) rfl
    by_cases hlt : (args.length : Int) + j < r
    · have HT : Hid (ints (regs0 args (j + 1)) = ints (regs0 args j) ++ [.int .i64 0]) := regs0_snoc args j
      go_wp2_with (at_builtin; refine wpList_append_own _ rfl _ _ 36 rfl W.heap.size 3 i0 (.int .i64 0) 1 8 Try.underlying36 ii iz0 iz1 iz2 rfl (by decide) _ _ _ rfl (own.alloc _) ⟨wr.heap.size, 0, none⟩ 1 1 [.int .i64 0] rfl rfl ?c1 (int_one _) ?c3 ?c4 ?c5 ?_)
      case c1 => exact one_new wr _ _
      case c3 => unfold maxLen; omega
      case c4 => omega
      case c5 => simp; omega
      intro v' w3 hown' hgrow _
      rw [← HT.out] at hown'
      have hb3 := (hbel.alloc hz (.cells #[.int .i64 0] 3)).grown hgrow (by simp; omega) (fun g hg => (own.lt g hg).1)
      obtain ⟨lo', lc', rfl⟩ := owns_slice hown'
      clear hgrow own hbel HT p1
      go_wp2
      go_roundw
      case rel => exact ⟨j + 1, by omega, by go_num, hown', hb3⟩
      case measure => simp [intOf]; omega
    · have hje : j = (r - args.length).toNat := by omega
      rw [← hje] at hp
      have hjl : args.length + j ≤ 8 := by omega
      clear hje
      have rIr := rI.keep hbel
      have rRr := rR.keep hbel
      have hmk : ∀ w', Keep (fun g => g = w.heap.size + 2) wr w' → RdWords w' (.slice mo mem.length mc) mem := fun w' hk => hm.keep (hbW.trans ((hbel.mono (by omega)).trans (hk.toBelow (by omega) (fun g hg => by omega))))
      have hsk : ∀ w', Keep (fun g => g = w.heap.size + 2) wr w' → RdWords w' (.slice so spill.length sc) spill := fun w' hk => hs.keep (hbW.trans ((hbel.mono (by omega)).trans (hk.toBelow (by omega) (fun g hg => by omega))))
      have q1 : ∀ w', Keep (fun g => g = w.heap.size + 2) wr w' → w'.cell? ⟨w.heap.size + 1, 1, none⟩ = some (.slice mo mem.length mc) := fun w' hk => hk.cell (by show ¬ (w.heap.size + 1 = w.heap.size + 2); omega) (rIr.cell (i := 1) rfl)
      have q2 : ∀ w', Keep (fun g => g = w.heap.size + 2) wr w' → w'.cell? ⟨w.heap.size + 1, 2, none⟩ = some (.slice so spill.length sc) := fun w' hk => hk.cell (by show ¬ (w.heap.size + 1 = w.heap.size + 2); omega) (rIr.cell (i := 2) rfl)
      have rRd : Row wr.drew (w.heap.size + 2) 123 zMach := rRr.keep ((Below.refl _ _).drew)
      have kd : Keep (fun g => g = w.heap.size + 2) wr wr.drew := (Keep.refl _ _).below ((Below.refl wr.heap.size wr).drew) (Nat.le_refl _)
      clear rIr
      go_wp2
      go_region_held3 (fun w' => Keep (fun g => g = w.heap.size + 2) wr w') (first | with_reducible exact kwm | with_reducible exact kws | with_reducible exact kd | with_reducible exact ((((kws.setCell (p := ⟨w.heap.size + 2, 0, none⟩) (.inl rfl) _).setCell (p := ⟨w.heap.size + 2, 1, none⟩) (.inl rfl) _).setCell (p := ⟨w.heap.size + 2, 2, none⟩) (.inl rfl) _).setCell (p := ⟨w.heap.size + 2, 3, none⟩) (.inl rfl) _).setCell (p := ⟨w.heap.size + 2, 4, none⟩) (.inl rfl) _ | with_reducible exact ((((kwm.setCell (p := ⟨w.heap.size + 2, 0, none⟩) (.inl rfl) _).setCell (p := ⟨w.heap.size + 2, 1, none⟩) (.inl rfl) _).setCell (p := ⟨w.heap.size + 2, 2, none⟩) (.inl rfl) _).setCell (p := ⟨w.heap.size + 2, 3, none⟩) (.inl rfl) _).setCell (p := ⟨w.heap.size + 2, 4, none⟩) (.inl rfl) _) (first | (go_at_call 93; with_reducible refine copied_cps (.slice mo mem.length mc) mem wr.drew (hmk _ kd) (by omega) _ ?_; intro cv wm ownm hbm; obtain ⟨co, cc, rfl⟩ := owns_slice ownm; have kwm := kd.below hbm kd.size; have rRm := rRd.keep hbm; have z0 := rRm.cell (i := 0) rfl; have f0 := rRm.frozen 0; have z1 := rRm.cell (i := 1) rfl; have f1 := rRm.frozen 1; have z2 := rRm.cell (i := 2) rfl; have f2 := rRm.frozen 2; have z3 := rRm.cell (i := 3) rfl; have f3 := rRm.frozen 3; have z4 := rRm.cell (i := 4) rfl; have f4 := rRm.frozen 4) | (go_at_call 93; with_reducible refine copied_cps (.slice so spill.length sc) spill wm (hsk _ kwm) (by omega) _ ?_; intro sv ws owns hbs; obtain ⟨so', sc', rfl⟩ := owns_slice owns; have kws := kwm.below hbs kwm.size; have rRs := rRm.keep hbs; have y0 := rRs.cell (i := 0) rfl; have e0 := rRs.frozen 0; have y1 := rRs.cell (i := 1) rfl; have e1 := rRs.frozen 1; have y2 := rRs.cell (i := 2) rfl; have e2 := rRs.frozen 2; have y3 := rRs.cell (i := 3) rfl; have e3 := rRs.frozen 3; have y4 := rRs.cell (i := 4) rfl; have e4 := rRs.frozen 4) | (go_at_call 93; with_reducible refine copied_cps (.slice so spill.length sc) spill wr.drew (hsk _ kd) (by omega) _ ?_; intro sv ws owns hbs; obtain ⟨so', sc', rfl⟩ := owns_slice owns; have kws := kd.below hbs kd.size; have rRs := rRd.keep hbs; have y0 := rRs.cell (i := 0) rfl; have e0 := rRs.frozen 0; have y1 := rRs.cell (i := 1) rfl; have e1 := rRs.frozen 1; have y2 := rRs.cell (i := 2) rfl; have e2 := rRs.frozen 2; have y3 := rRs.cell (i := 3) rfl; have e3 := rRs.frozen 3; have y4 := rRs.cell (i := 4) rfl; have e4 := rRs.frozen 4) | (go_at_call 93; with_reducible refine copied_cps (.slice mo mem.length mc) mem ws (hmk _ kws) (by omega) _ ?_; intro cv wm ownm hbm; obtain ⟨co, cc, rfl⟩ := owns_slice ownm; have kwm := kws.below hbm kws.size; have rRm := rRs.keep hbm; have z0 := rRm.cell (i := 0) rfl; have f0 := rRm.frozen 0; have z1 := rRm.cell (i := 1) rfl; have f1 := rRm.frozen 1; have z2 := rRm.cell (i := 2) rfl; have f2 := rRm.frozen 2; have z3 := rRm.cell (i := 3) rfl; have f3 := rRm.frozen 3; have z4 := rRm.cell (i := 4) rfl; have f4 := rRm.frozen 4))
      · have hzm := hbm.size
        have hzs := hbs.size
        have hzd : wr.drew.heap.size = wr.heap.size := rfl
        have ownr : ws.ownsRow W.heap.size 3 1 (.slice lo (args.length + j) lc) (args.length + j) (ints (regs0 args j)) := owns_below (owns_below (w := wr.drew) own hbm (Nat.le_refl _)) hbs (Nat.le_refl _)
        have ownc := owns_below ownm hbs (Nat.le_refl _)
        have owns2 := owns
        have apc : ∀ g, (Value.slice lo (args.length + j) lc).ownBlock = some g → (Value.slice co mem.length cc).ownBlock ≠ some g := fun g e e2 => by have q1 := (own.lt g e).2; have q2 := (ownm.lt g e2).1; omega
        have aps : ∀ g, (Value.slice lo (args.length + j) lc).ownBlock = some g → (Value.slice so' spill.length sc').ownBlock ≠ some g := fun g e e2 => by have q1 := (own.lt g e).2; have q2 := (owns.lt g e2).1; omega
        have acs : ∀ g, (Value.slice co mem.length cc).ownBlock = some g → (Value.slice so' spill.length sc').ownBlock ≠ some g := fun g e e2 => by have q1 := (ownm.lt g e).2; have q2 := (owns.lt g e2).1; omega
        have gec : ∀ g, (Value.slice co mem.length cc).ownBlock = some g → W.heap.size ≤ g := fun g e => by have q2 := (ownm.lt g e).1; omega
        have ges : ∀ g, (Value.slice so' spill.length sc').ownBlock = some g → W.heap.size ≤ g := fun g e => by have q2 := (owns.lt g e).1; omega
        have ger : ∀ g, (Value.slice lo (args.length + j) lc).ownBlock = some g → W.heap.size ≤ g := fun g e => (own.lt g e).1
        have hzl := kws.size
        have hB0 : Bunch (fun g => g < w.heap.size) ws (.slice lo (args.length + j) lc) (.slice co mem.length cc) (.slice so' spill.length sc') (.slice none 0 0) ⟨regs0 args j, mem, spill, [], 0⟩ :=
          ⟨by show World.ownsRow _ _ _ _ _ _ _; simp only [regs0_length]; exact owns_base ownr (Nat.zero_le _), owns_base ownc (Nat.zero_le _), owns_base owns2 (Nat.zero_le _), World.ownsRow_nil _ _ _ _, apc, aps, (fun g _ e2 => by simp [Value.ownBlock] at e2), acs, (fun g _ e2 => by simp [Value.ownBlock] at e2), (fun g _ e2 => by simp [Value.ownBlock] at e2),
            (fun g e c => by have := ger g e; omega), (fun g e c => by have := gec g e; omega), (fun g e c => by have := ges g e; omega), (fun g e c => by simp [Value.ownBlock] at e), (fun g c => by omega)⟩
        have hB5 := ((((hB0.far rRs (by decide) 0 (.slice lo (args.length + j) lc)).far (rRs.set 0 _) (by decide) 1 (.slice co mem.length cc)).far ((rRs.set 0 _).set 1 _) (by decide) 2 (.slice so' spill.length sc')).far (((rRs.set 0 _).set 1 _).set 2 _) (by decide) 3 (.slice none 0 0)).far ((((rRs.set 0 _).set 1 _).set 2 _).set 3 _) (by decide) 4 (.int .i64 0)
        have hK5 := ((((kws.setCell (p := ⟨w.heap.size + 2, 0, none⟩) (.inl rfl) (.slice lo (args.length + j) lc)).setCell (p := ⟨w.heap.size + 2, 1, none⟩) (.inl rfl) (.slice co mem.length cc)).setCell (p := ⟨w.heap.size + 2, 2, none⟩) (.inl rfl) (.slice so' spill.length sc')).setCell (p := ⟨w.heap.size + 2, 3, none⟩) (.inl rfl) (.slice none 0 0)).setCell (p := ⟨w.heap.size + 2, 4, none⟩) (.inl rfl) (.int .i64 0)
        have hb5 := (hbW.trans (hbel.mono (by omega))).trans (hK5.toBelow (B := w.heap.size) (by omega) (fun g hg => by omega))
        have HF := hp _ _ _ _ hB5 hb5
        clear hp hB0 hB5 hK5 hb5 own ownm owns ownr ownc owns2 apc aps acs gec ges ger rP rI rR rRr rRd rRm rRs hbm hbs kwm kws kd hbel hbW
        have HF' : Hid _ := HF
        clear HF
        go_wp2
        (try simp only [Exit.inBlock, Exit.then])
        refine bodyPost_ret (v := .agg #[.slice lo (args.length + j) lc, .slice co mem.length cc, .slice so' spill.length sc', .slice none 0 0, .int .i64 0]) ?_ rfl ?_
        · simp [results, Try.results82, go_sem, y0, y1, y2, y3, y4]
        · simp only [show w.heap.size + 1 + 1 = w.heap.size + 2 from rfl]
          with_reducible exact HF'.out

end Go.Proofs.Ytblhmeidbjigaaa

/- What Run answers, pure. -/
set_option linter.unusedSimpArgs false
set_option linter.unusedVariables false
namespace Go.Proofs.Ytblhmeidbjigaaa
open Go.RowKit

def outZ : OutD := ⟨0, 0, [], []⟩

def fits (p : ProgD) (args mem spill : List Int) : Prop := (args.length : Int) = p.args ∧ (mem.length : Int) = p.data ∧ (spill.length : Int) = p.slots

def begins (p : ProgD) (args mem spill : List Int) : RunD := ⟨regs0 args (p.regs - args.length).toNat, mem, spill, [], 0⟩

/-- The document's answer: the outcome and the error. -/
def RunAns (s : ByteArray) (args mem spill : List Int) (fuel : Int) (o : OutD) (e : Int) : Prop :=
  (e = 1 ∧ o = outZ ∧ ∀ p, progGood p = true → str (progText p) ≠ s) ∨
  ∃ p, progGood p = true ∧ str (progText p) = s ∧
    ((e = 3 ∧ o = outZ ∧ ¬ fits p args mem spill) ∨ (e = 4 ∧ o = outZ ∧ fits p args mem spill ∧ ¬ (0 ≤ fuel ∧ fuel ≤ 300)) ∨
      (e = 0 ∧ fits p args mem spill ∧ (0 ≤ fuel ∧ fuel ≤ 300) ∧ o = runN p.blocks fuel.toNat 0 (begins p args mem spill)))

theorem RunAns.one {s : ByteArray} {args mem spill : List Int} {fuel : Int} {o o' : OutD} {e e' : Int} (h : RunAns s args mem spill fuel o e) (h' : RunAns s args mem spill fuel o' e') : o = o' ∧ e = e' := by
  rcases h with ⟨rfl, rfl, h1⟩ | ⟨p, hg, ht, h1⟩
  · rcases h' with ⟨rfl, rfl, _⟩ | ⟨q, hg, ht, _⟩
    · exact ⟨rfl, rfl⟩
    · exact absurd ht (h1 q hg)
  · rcases h' with ⟨rfl, rfl, h2⟩ | ⟨q, hg', ht', h2⟩
    · exact absurd ht (h2 p hg)
    · obtain rfl : p = q := prog_one hg hg' (ht.trans ht'.symm)
      rcases h1 with ⟨rfl, rfl, a⟩ | ⟨rfl, rfl, a, b⟩ | ⟨rfl, a, b, rfl⟩
      · rcases h2 with ⟨rfl, rfl, _⟩ | ⟨_, _, c, _⟩ | ⟨_, c, _, _⟩
        · exact ⟨rfl, rfl⟩
        · exact absurd c a
        · exact absurd c a
      · rcases h2 with ⟨_, _, c⟩ | ⟨rfl, rfl, _, _⟩ | ⟨_, _, c, _⟩
        · exact absurd a c
        · exact ⟨rfl, rfl⟩
        · exact absurd c b
      · rcases h2 with ⟨_, _, c⟩ | ⟨_, _, _, c⟩ | ⟨rfl, _, _, rfl⟩
        · exact absurd a c
        · exact absurd b c
        · exact ⟨rfl, rfl⟩

theorem owns_rebase {w : World} {B : Nat} {e : TypeId} {sz : Nat} {v : Value} {n : Nat} {xs : List Value} (h : w.ownsRow 0 e sz v n xs) (hB : ∀ g, v.ownBlock = some g → B ≤ g) : w.ownsRow B e sz v n xs := by
  refine ⟨h.1, ?_⟩
  rcases h.2 with h2 | ⟨g, cap, cur, rfl, hg, r⟩
  · exact .inl h2
  · exact .inr ⟨g, cap, cur, rfl, hB g rfl, r⟩

/-- What comes out of Run. -/
structure RunOut (w w' : World) (o : OutD) (mv lv : Value) : Prop where
  mem : w'.ownsRow w.heap.size 3 1 mv o.mem.length (ints o.mem)
  leak : w'.ownsRow w.heap.size 3 1 lv o.leak.length (ints o.leak)
  apart : ∀ g, mv.ownBlock = some g → lv.ownBlock ≠ some g
  below : Below w.heap.size w w'

theorem out4_below {B : Nat} {w w' : World} (h : Below B w w') {R : Nat} (hR : B ≤ R) (k r : Int) (m l : Value) : Below B w (out4 w' R k r m l) :=
  (((h.setCell hR _).setCell hR _).setCell hR _).setCell hR _

theorem runOut_nil {w w' : World} (h : Below w.heap.size w w') : RunOut w w' outZ (.slice none 0 0) (.slice none 0 0) :=
  ⟨World.ownsRow_nil _ _ _ _, World.ownsRow_nil _ _ _ _, fun g e => by simp [Value.ownBlock] at e, h⟩

theorem begins_sized {p : ProgD} {args mem spill : List Int} (hg : progGood p = true) (h : fits p args mem spill) : Sized (begins p args mem spill) p.regs p.data p.slots := by
  simp only [progGood, Bool.and_eq_true, decide_eq_true_eq] at hg
  obtain ⟨h1, h2, h3⟩ := h
  refine ⟨?_, h2, h3⟩
  show ((regs0 args (p.regs - args.length).toNat).length : Int) = p.regs
  rw [regs0_length]
  omega

end Go.Proofs.Ytblhmeidbjigaaa

/- Run in package machine. -/
set_option linter.unusedSimpArgs false
set_option linter.unusedVariables false
namespace Go.Proofs.Ytblhmeidbjigaaa
open Go.RowKit

set_option maxRecDepth 100000 in
set_option maxHeartbeats 2000000 in
theorem mRun_cps (s : ByteArray) (av mv sv : Value) (args mem spill : List Int) (fuel : Int) (w : World) (ha : RdWords w av args) (hm : RdWords w mv mem) (hsp : RdWords w sv spill) (hs : s.size ≤ maxLen) (Post : Ending → World → Prop)
    (hp : ∀ o e mv lv w', RunAns s args mem spill fuel o e → RunOut w w' o mv lv → Post (.returned (.tuple #[.agg #[.int .i64 o.kind, .int .i64 o.result, mv, lv], .int .i64 e])) w') :
    Calls Try.prog 59 #[.string s, .agg #[av, mv, sv], .int .i64 fuel] w Post := by
  obtain ⟨ao, ac, rfl, hal, _⟩ := id ha
  obtain ⟨mo, mc, rfl, hml, _⟩ := id hm
  obtain ⟨so, sc, rfl, hsl, _⟩ := id hsp
  have hc := cDecode_any s ((w.alloc (.cells #[.slice ao args.length ac, .slice mo mem.length mc, .slice so spill.length sc] 52)).alloc (.cells #[.int .i64 0, .int .i64 0, .slice none 0 0, .slice none 0 0] 54)) hs
  have rI : Row ((w.alloc (.cells #[.slice ao args.length ac, .slice mo mem.length mc, .slice so spill.length sc] 52)).alloc (.cells #[.int .i64 0, .int .i64 0, .slice none 0 0, .slice none 0 0] 54)) w.heap.size 52 [.slice ao args.length ac, .slice mo mem.length mc, .slice so spill.length sc] := by
    have q : Row (w.alloc (.cells #[.slice ao args.length ac, .slice mo mem.length mc, .slice so spill.length sc] 52)) w.heap.size 52 [.slice ao args.length ac, .slice mo mem.length mc, .slice so spill.length sc] := heap_alloc_new w _
    exact q.alloc _
  have rO : Row ((w.alloc (.cells #[.slice ao args.length ac, .slice mo mem.length mc, .slice so spill.length sc] 52)).alloc (.cells #[.int .i64 0, .int .i64 0, .slice none 0 0, .slice none 0 0] 54)) (w.heap.size + 1) 54 zOut := heap_alloc2_new w _ _
  have hbW : Below w.heap.size w ((w.alloc (.cells #[.slice ao args.length ac, .slice mo mem.length mc, .slice so spill.length sc] 52)).alloc (.cells #[.int .i64 0, .int .i64 0, .slice none 0 0, .slice none 0 0] 54)) := ((Below.refl w.heap.size w).alloc (Nat.le_refl _) _).alloc (by simp) _
  go_enter Try.func59, Try.ntmps59
  go_wp2_with fail
  refine hc.mono ?_
  clear hc
  rintro e w1 ⟨hor, hb1⟩
  have rI1 := rI.keep hb1
  have rO1 := rO.keep hb1
  have hb01 := hbW.trans (hb1.mono (by simp; omega))
  have hz1 : w.heap.size + 2 ≤ w1.heap.size := by have := hb1.size; simp at this; omega
  clear rI rO hbW
  rcases hor with ⟨⟨a0, a1, a2, a3, l⟩, v, bv, rfl, ho, hd, hg, ht⟩ | ⟨hn, rfl⟩
  · simp only at hd
    obtain ⟨bo, bc, rfl⟩ := owns_slice ho.row
    unfold progV
    simp only
    have ho2 := ho.alloc (.cells #[.int .i64 a0, .int .i64 a1, .int .i64 a2, .int .i64 a3, .slice bo bv.length bc] 24)
    have rI2 := rI1.alloc (.cells #[.int .i64 a0, .int .i64 a1, .int .i64 a2, .int .i64 a3, .slice bo bv.length bc] 24)
    have rO2 := rO1.alloc (.cells #[.int .i64 a0, .int .i64 a1, .int .i64 a2, .int .i64 a3, .slice bo bv.length bc] 24)
    have rP2 : Row (w1.alloc (.cells #[.int .i64 a0, .int .i64 a1, .int .i64 a2, .int .i64 a3, .slice bo bv.length bc] 24)) w1.heap.size 24 [.int .i64 a0, .int .i64 a1, .int .i64 a2, .int .i64 a3, .slice bo bv.length bc] := heap_alloc_new w1 _
    have hb02 := hb01.alloc (show w.heap.size ≤ w1.heap.size by omega) (.cells #[.int .i64 a0, .int .i64 a1, .int .i64 a2, .int .i64 a3, .slice bo bv.length bc] 24)
    clear ho rI1 rO1 hb01 hb1
    have i0 := rI2.cell (i := 0) rfl
    have i1 := rI2.cell (i := 1) rfl
    have i2 := rI2.cell (i := 2) rfl
    have p0 := rP2.cell (i := 0) rfl
    have p1 := rP2.cell (i := 1) rfl
    have p2 := rP2.cell (i := 2) rfl
    have p3 := rP2.cell (i := 3) rfl
    have p4 := rP2.cell (i := 4) rfl
    have y0 := rO2.cell (i := 0) rfl
    have y1 := rO2.cell (i := 1) rfl
    have y2 := rO2.cell (i := 2) rfl
    have y3 := rO2.cell (i := 3) rfl
    have f0 := rO2.frozen 0
    have f1 := rO2.frozen 1
    have f2 := rO2.frozen 2
    have f3 := rO2.frozen 3
    by_cases h0 : (args.length : Int) = a0
    case neg =>
      have e0 : ((args.length : Int) == a0) = false := by simp [h0]
      have hfin := hp outZ 3 (.slice none 0 0) (.slice none 0 0) (out4 (w1.alloc (.cells #[.int .i64 a0, .int .i64 a1, .int .i64 a2, .int .i64 a3, .slice bo bv.length bc] 24)) (w.heap.size + 1) 0 0 (.slice none 0 0) (.slice none 0 0)) (.inr ⟨⟨a0, a1, a2, a3, l⟩, hg, ht, .inl ⟨rfl, rfl, fun c => h0 c.1⟩⟩) (runOut_nil (out4_below hb02 (by omega) _ _ _ _))
      have HF : Hid (Post (.returned (.tuple #[.agg #[.int .i64 0, .int .i64 0, .slice none 0 0, .slice none 0 0], .int .i64 3])) (out4 (w1.alloc (.cells #[.int .i64 a0, .int .i64 a1, .int .i64 a2, .int .i64 a3, .slice bo bv.length bc] 24)) (w.heap.size + 1) 0 0 (.slice none 0 0) (.slice none 0 0))) := hfin
      clear hfin hp ho2 rI2 rO2 rP2 hb02
      unfold out4 at HF
      go_wp2
      (try simp only [Exit.inBlock, Exit.then])
      refine bodyPost_ret (v := .tuple #[.agg #[.int .i64 0, .int .i64 0, .slice none 0 0, .slice none 0 0], .int .i64 3]) ?_ rfl ?_
      · simp [results, Try.results59, go_sem, y0, y1, y2, y3]
      · exact HF.out
    by_cases h2 : (mem.length : Int) = a2
    case neg =>
      have e0 : ((args.length : Int) == a0) = true := by simp [h0]
      have e2 : ((mem.length : Int) == a2) = false := by simp [h2]
      have hfin := hp outZ 3 (.slice none 0 0) (.slice none 0 0) (out4 (w1.alloc (.cells #[.int .i64 a0, .int .i64 a1, .int .i64 a2, .int .i64 a3, .slice bo bv.length bc] 24)) (w.heap.size + 1) 0 0 (.slice none 0 0) (.slice none 0 0)) (.inr ⟨⟨a0, a1, a2, a3, l⟩, hg, ht, .inl ⟨rfl, rfl, fun c => h2 c.2.1⟩⟩) (runOut_nil (out4_below hb02 (by omega) _ _ _ _))
      have HF : Hid (Post (.returned (.tuple #[.agg #[.int .i64 0, .int .i64 0, .slice none 0 0, .slice none 0 0], .int .i64 3])) (out4 (w1.alloc (.cells #[.int .i64 a0, .int .i64 a1, .int .i64 a2, .int .i64 a3, .slice bo bv.length bc] 24)) (w.heap.size + 1) 0 0 (.slice none 0 0) (.slice none 0 0))) := hfin
      clear hfin hp ho2 rI2 rO2 rP2 hb02
      unfold out4 at HF
      go_wp2
      (try simp only [Exit.inBlock, Exit.then])
      refine bodyPost_ret (v := .tuple #[.agg #[.int .i64 0, .int .i64 0, .slice none 0 0, .slice none 0 0], .int .i64 3]) ?_ rfl ?_
      · simp [results, Try.results59, go_sem, y0, y1, y2, y3]
      · exact HF.out
    by_cases h3 : (spill.length : Int) = a3
    case neg =>
      have e0 : ((args.length : Int) == a0) = true := by simp [h0]
      have e2 : ((mem.length : Int) == a2) = true := by simp [h2]
      have e3 : ((spill.length : Int) == a3) = false := by simp [h3]
      have hfin := hp outZ 3 (.slice none 0 0) (.slice none 0 0) (out4 (w1.alloc (.cells #[.int .i64 a0, .int .i64 a1, .int .i64 a2, .int .i64 a3, .slice bo bv.length bc] 24)) (w.heap.size + 1) 0 0 (.slice none 0 0) (.slice none 0 0)) (.inr ⟨⟨a0, a1, a2, a3, l⟩, hg, ht, .inl ⟨rfl, rfl, fun c => h3 c.2.2⟩⟩) (runOut_nil (out4_below hb02 (by omega) _ _ _ _))
      have HF : Hid (Post (.returned (.tuple #[.agg #[.int .i64 0, .int .i64 0, .slice none 0 0, .slice none 0 0], .int .i64 3])) (out4 (w1.alloc (.cells #[.int .i64 a0, .int .i64 a1, .int .i64 a2, .int .i64 a3, .slice bo bv.length bc] 24)) (w.heap.size + 1) 0 0 (.slice none 0 0) (.slice none 0 0))) := hfin
      clear hfin hp ho2 rI2 rO2 rP2 hb02
      unfold out4 at HF
      go_wp2
      (try simp only [Exit.inBlock, Exit.then])
      refine bodyPost_ret (v := .tuple #[.agg #[.int .i64 0, .int .i64 0, .slice none 0 0, .slice none 0 0], .int .i64 3]) ?_ rfl ?_
      · simp [results, Try.results59, go_sem, y0, y1, y2, y3]
      · exact HF.out
    subst h0 h2 h3
    by_cases hf0 : fuel < 0
    · have hfin := hp outZ 4 (.slice none 0 0) (.slice none 0 0) (out4 (w1.alloc (.cells #[.int .i64 args.length, .int .i64 a1, .int .i64 mem.length, .int .i64 spill.length, .slice bo bv.length bc] 24)) (w.heap.size + 1) 0 0 (.slice none 0 0) (.slice none 0 0)) (.inr ⟨⟨args.length, a1, mem.length, spill.length, l⟩, hg, ht, .inr (.inl ⟨rfl, rfl, ⟨rfl, rfl, rfl⟩, fun c => by omega⟩)⟩) (runOut_nil (out4_below hb02 (by omega) _ _ _ _))
      have HF : Hid (Post (.returned (.tuple #[.agg #[.int .i64 0, .int .i64 0, .slice none 0 0, .slice none 0 0], .int .i64 4])) (out4 (w1.alloc (.cells #[.int .i64 args.length, .int .i64 a1, .int .i64 mem.length, .int .i64 spill.length, .slice bo bv.length bc] 24)) (w.heap.size + 1) 0 0 (.slice none 0 0) (.slice none 0 0))) := hfin
      clear hfin hp ho2 rI2 rO2 rP2 hb02
      unfold out4 at HF
      go_wp2
      (try simp only [Exit.inBlock, Exit.then])
      refine bodyPost_ret (v := .tuple #[.agg #[.int .i64 0, .int .i64 0, .slice none 0 0, .slice none 0 0], .int .i64 4]) ?_ rfl ?_
      · simp [results, Try.results59, go_sem, y0, y1, y2, y3]
      · exact HF.out
    by_cases hf1 : 300 < fuel
    · have hfin := hp outZ 4 (.slice none 0 0) (.slice none 0 0) (out4 (w1.alloc (.cells #[.int .i64 args.length, .int .i64 a1, .int .i64 mem.length, .int .i64 spill.length, .slice bo bv.length bc] 24)) (w.heap.size + 1) 0 0 (.slice none 0 0) (.slice none 0 0)) (.inr ⟨⟨args.length, a1, mem.length, spill.length, l⟩, hg, ht, .inr (.inl ⟨rfl, rfl, ⟨rfl, rfl, rfl⟩, fun c => by omega⟩)⟩) (runOut_nil (out4_below hb02 (by omega) _ _ _ _))
      have HF : Hid (Post (.returned (.tuple #[.agg #[.int .i64 0, .int .i64 0, .slice none 0 0, .slice none 0 0], .int .i64 4])) (out4 (w1.alloc (.cells #[.int .i64 args.length, .int .i64 a1, .int .i64 mem.length, .int .i64 spill.length, .slice bo bv.length bc] 24)) (w.heap.size + 1) 0 0 (.slice none 0 0) (.slice none 0 0))) := hfin
      clear hfin hp ho2 rI2 rO2 rP2 hb02
      unfold out4 at HF
      go_wp2
      (try simp only [Exit.inBlock, Exit.then])
      refine bodyPost_ret (v := .tuple #[.agg #[.int .i64 0, .int .i64 0, .slice none 0 0, .slice none 0 0], .int .i64 4]) ?_ rfl ?_
      · simp [results, Try.results59, go_sem, y0, y1, y2, y3]
      · exact HF.out
    obtain ⟨fu, rfl⟩ := Int.eq_ofNat_of_zero_le (show 0 ≤ fuel by omega)
    have hgg := hg
    simp only [progGood, Bool.and_eq_true, decide_eq_true_eq] at hgg
    obtain ⟨⟨⟨⟨⟨g1, g2⟩, g3⟩, g4⟩, g5⟩, g6⟩ := hgg
    have hans : RunAns s args mem spill fu (runN l fu 0 (begins ⟨args.length, a1, mem.length, spill.length, l⟩ args mem spill)) 0 := .inr ⟨⟨args.length, a1, mem.length, spill.length, l⟩, hg, ht, .inr (.inr ⟨rfl, ⟨rfl, rfl, rfl⟩, by omega, by simp⟩)⟩
    have hsz := begins_sized (args := args) (mem := mem) (spill := spill) hg ⟨rfl, rfl, rfl⟩
    have hal' := ha.keep hb02
    have hml' := hm.keep hb02
    have hsl' := hsp.keep hb02
    have hrd := OwnBlocks.rd ho2
    rw [hd] at hrd
    obtain ⟨W2, hW2⟩ : ∃ W2, W2 = w1.alloc (.cells #[.int .i64 args.length, .int .i64 a1, .int .i64 mem.length, .int .i64 spill.length, .slice bo bv.length bc] 24) := ⟨_, rfl⟩
    rw [← hW2] at hrd hal' hml' hsl' hb02 rI2 rO2 rP2
    have hz2 : w.heap.size + 3 ≤ W2.heap.size := by rw [hW2]; simp; omega
    clear hg ht ho2 ha hm hsp
    go_wp2_with fail
    rw [← hW2]
    clear hW2 i0 i1 i2 p0 p1 p2 p3 p4 y0 y1 y2 y3 f0 f1 f2 f3
    refine begin_cps a1 mem.length spill.length _ _ _ _ args mem spill W2 hal' hml' hsl' (by omega) (by omega) (by omega) (by omega) ⟨_, _, _, rfl⟩ _ ?_
    intro rv cv sv w3 hB hb3
    obtain ⟨ro, rc, rfl⟩ := owns_slice hB.regs
    obtain ⟨co, cc, rfl⟩ := owns_slice hB.cells
    obtain ⟨so', sc', rfl⟩ := owns_slice hB.slots
    have hz3 := hb3.size
    have hall := (Below.refl w3.heap.size w3).alloc (Nat.le_refl _) (.cells #[.slice ro (regs0 args (a1 - args.length).toNat).length rc, .slice co mem.length cc, .slice so' spill.length sc', .slice none 0 0, .int .i64 0] 123)
    have hM : Mach (fun g => g < W2.heap.size) (w3.alloc (.cells #[.slice ro (regs0 args (a1 - args.length).toNat).length rc, .slice co mem.length cc, .slice so' spill.length sc', .slice none 0 0, .int .i64 0] 123)) w3.heap.size (begins ⟨args.length, a1, mem.length, spill.length, l⟩ args mem spill) :=
      ⟨_, _, _, _, heap_alloc_new w3 _, hB.keep hall, fun c => by omega⟩
    have hb4 : Below W2.heap.size W2 (w3.alloc (.cells #[.slice ro (regs0 args (a1 - args.length).toNat).length rc, .slice co mem.length cc, .slice so' spill.length sc', .slice none 0 0, .int .i64 0] 123)) := hb3.trans (hall.mono (by omega))
    have p4 := (rP2.keep hb4).cell (i := 4) rfl
    have hlz : (begins ⟨args.length, a1, mem.length, spill.length, l⟩ args mem spill).leak = [] := rfl
    have htz : (begins ⟨args.length, a1, mem.length, spill.length, l⟩ args mem spill).trap = 0 := rfl
    generalize begins ⟨args.length, a1, mem.length, spill.length, l⟩ args mem spill = S0 at *
    generalize (regs0 args (a1 - args.length).toNat).length = nr at *
    clear hB hall hal' hml' hsl'
    obtain ⟨w4, hw4⟩ : ∃ w4, w4 = w3.alloc (.cells #[.slice ro nr rc, .slice co mem.length cc, .slice so' spill.length sc', .slice none 0 0, .int .i64 0] 123) := ⟨_, rfl⟩
    rw [← hw4] at hM hb4
    have hz4 := hb4.size
    go_wp2_with fail
    rw [← hw4]
    clear hw4 p4
    refine run_cps (fun g => g < W2.heap.size) w3.heap.size S0 l _ fu a1 mem.length spill.length W2 w4 hM (by omega) hlz htz hsz g6 (by omega) hrd (fun g h => h) hb4 _ ?_
    intro mv' lv' w5 own1 own2 ap k1 k2 hk5
    have hb5 := hb4.trans (hk5.toBelow hz4 (fun g hn => by omega))
    have rO5 := rO2.keep hb5
    have hb05 := hb02.trans (hb5.mono (by omega))
    have hz5 := hb5.size
    generalize runN l fu 0 S0 = G at *
    have hfin := hp G 0 mv' lv' (out4 w5 (w.heap.size + 1) G.kind G.result mv' lv') hans
      ⟨owns_rebase (OwnW.out4 own1 rO5 _ _ _ _) (fun g e => by have := k1 g e; omega), owns_rebase (OwnW.out4 own2 rO5 _ _ _ _) (fun g e => by have := k2 g e; omega), ap, out4_below hb05 (by omega) _ _ _ _⟩
    obtain ⟨mo', mc', rfl⟩ := owns_slice own1
    obtain ⟨lo', lc', rfl⟩ := owns_slice own2
    have HF : Hid (Post (.returned (.tuple #[.agg #[.int .i64 G.kind, .int .i64 G.result, .slice mo' G.mem.length mc', .slice lo' G.leak.length lc'], .int .i64 0])) (out4 w5 (w.heap.size + 1) G.kind G.result (.slice mo' G.mem.length mc') (.slice lo' G.leak.length lc'))) := hfin
    have y0 := rO5.cell (i := 0) rfl
    have y1 := rO5.cell (i := 1) rfl
    have y2 := rO5.cell (i := 2) rfl
    have y3 := rO5.cell (i := 3) rfl
    have f0 := rO5.frozen 0
    have f1 := rO5.frozen 1
    have f2 := rO5.frozen 2
    have f3 := rO5.frozen 3
    clear hfin hp own1 own2 ap k1 k2 hk5 hb5 rO5 hb05 hM hb4 rP2 rI2 rO2 hrd hans
    unfold out4 at HF
    go_wp2
    (try simp only [Exit.inBlock, Exit.then])
    refine bodyPost_ret (v := .tuple #[.agg #[.int .i64 G.kind, .int .i64 G.result, .slice mo' G.mem.length mc', .slice lo' G.leak.length lc'], .int .i64 0]) ?_ rfl ?_
    · simp [results, Try.results59, go_sem, y0, y1, y2, y3]
    · exact HF.out
  · clear hs
    have rO2 := rO1.alloc (.cells #[.int .i64 0, .int .i64 0, .int .i64 0, .int .i64 0, .slice none 0 0] 24)
    have hb02 := hb01.alloc (show w.heap.size ≤ w1.heap.size by omega) (.cells #[.int .i64 0, .int .i64 0, .int .i64 0, .int .i64 0, .slice none 0 0] 24)
    have y0 := rO2.cell (i := 0) rfl
    have y1 := rO2.cell (i := 1) rfl
    have y2 := rO2.cell (i := 2) rfl
    have y3 := rO2.cell (i := 3) rfl
    have f0 := rO2.frozen 0
    have f1 := rO2.frozen 1
    have f2 := rO2.frozen 2
    have f3 := rO2.frozen 3
    have hfin := hp outZ 1 (.slice none 0 0) (.slice none 0 0) (out4 (w1.alloc (.cells #[.int .i64 0, .int .i64 0, .int .i64 0, .int .i64 0, .slice none 0 0] 24)) (w.heap.size + 1) 0 0 (.slice none 0 0) (.slice none 0 0)) (.inl ⟨rfl, rfl, hn⟩) (runOut_nil (out4_below hb02 (by omega) _ _ _ _))
    have HF : Hid (Post (.returned (.tuple #[.agg #[.int .i64 0, .int .i64 0, .slice none 0 0, .slice none 0 0], .int .i64 1])) (out4 (w1.alloc (.cells #[.int .i64 0, .int .i64 0, .int .i64 0, .int .i64 0, .slice none 0 0] 24)) (w.heap.size + 1) 0 0 (.slice none 0 0) (.slice none 0 0))) := hfin
    clear hfin hp rI1 rO1 rO2 hb01 hb02 hb1 hn
    unfold out4 at HF
    go_wp2
    (try simp only [Exit.inBlock, Exit.then])
    refine bodyPost_ret (v := .tuple #[.agg #[.int .i64 0, .int .i64 0, .slice none 0 0, .slice none 0 0], .int .i64 1]) ?_ rfl ?_
    · simp [results, Try.results59, go_sem, y0, y1, y2, y3]
    · exact HF.out

end Go.Proofs.Ytblhmeidbjigaaa

/- Run in package twin. -/
set_option linter.unusedSimpArgs false
set_option linter.unusedVariables false
namespace Go.Proofs.Ytblhmeidbjigaaa
open Go.RowKit

theorem RunOut.set4 {w w0 w' : World} {o : OutD} {mv lv : Value} (h : RunOut w0 w' o mv lv) (hb : Below w.heap.size w w0) {R : Nat} {xs : List Value} (hr : Row w' R 54 xs) (hR : w.heap.size ≤ R) (k r : Int) (m l : Value) : RunOut w (out4 w' R k r m l) o mv lv :=
  ⟨owns_base (owns_rebase (OwnW.out4 (owns_base h.mem (Nat.zero_le _)) hr _ _ _ _) (fun g e => (h.mem.lt g e).1)) hb.size, owns_base (owns_rebase (OwnW.out4 (owns_base h.leak (Nat.zero_le _)) hr _ _ _ _) (fun g e => (h.leak.lt g e).1)) hb.size, h.apart,
    out4_below (hb.trans (h.below.mono hb.size)) hR _ _ _ _⟩

set_option maxRecDepth 100000 in
set_option maxHeartbeats 2000000 in
theorem tRun_cps (s : ByteArray) (av mv sv : Value) (args mem spill : List Int) (fuel : Int) (w : World) (ha : RdWords w av args) (hm : RdWords w mv mem) (hsp : RdWords w sv spill) (hs : s.size ≤ maxLen) (Post : Ending → World → Prop)
    (hp : ∀ o e mv lv w', RunAns s args mem spill fuel o e → RunOut w w' o mv lv → Post (.returned (.tuple #[.agg #[.int .i64 o.kind, .int .i64 o.result, mv, lv], .int .i64 e])) w') :
    Calls Try.prog 24 #[.string s, .agg #[av, mv, sv], .int .i64 fuel] w Post := by
  obtain ⟨ao, ac, rfl, hal, _⟩ := id ha
  obtain ⟨mo, mc, rfl, hml, _⟩ := id hm
  obtain ⟨so, sc, rfl, hsl, _⟩ := id hsp
  have rO : Row ((w.alloc (.cells #[.slice ao args.length ac, .slice mo mem.length mc, .slice so spill.length sc] 52)).alloc (.cells #[.int .i64 0, .int .i64 0, .slice none 0 0, .slice none 0 0] 54)) (w.heap.size + 1) 54 zOut := heap_alloc2_new w _ _
  have hbW : Below w.heap.size w ((w.alloc (.cells #[.slice ao args.length ac, .slice mo mem.length mc, .slice so spill.length sc] 52)).alloc (.cells #[.int .i64 0, .int .i64 0, .slice none 0 0, .slice none 0 0] 54)) := ((Below.refl w.heap.size w).alloc (Nat.le_refl _) _).alloc (by simp) _
  go_enter Try.func24, Try.ntmps24
  go_wp2_with fail
  refine mRun_cps s _ _ _ args mem spill fuel _ (ha.keep hbW) (hm.keep hbW) (hsp.keep hbW) hs _ ?_
  intro o e mv' lv' w1 hans hout
  have rO1 := rO.keep hout.below
  have ho := hout.set4 hbW rO1 (by omega) o.kind o.result mv' lv'
  have hfin := hp o e mv' lv' _ hans ho
  obtain ⟨mo', mc', rfl⟩ := owns_slice hout.mem
  obtain ⟨lo', lc', rfl⟩ := owns_slice hout.leak
  have HF : Hid (Post (.returned (.tuple #[.agg #[.int .i64 o.kind, .int .i64 o.result, .slice mo' o.mem.length mc', .slice lo' o.leak.length lc'], .int .i64 e])) (out4 w1 (w.heap.size + 1) o.kind o.result (.slice mo' o.mem.length mc') (.slice lo' o.leak.length lc'))) := hfin
  have y0 := rO1.cell (i := 0) rfl
  have y1 := rO1.cell (i := 1) rfl
  have y2 := rO1.cell (i := 2) rfl
  have y3 := rO1.cell (i := 3) rfl
  have f0 := rO1.frozen 0
  have f1 := rO1.frozen 1
  have f2 := rO1.frozen 2
  have f3 := rO1.frozen 3
  clear hfin hp hans hout ho rO rO1 hbW ha hm hsp
  unfold out4 at HF
  go_wp2
  (try simp only [Exit.inBlock, Exit.then])
  refine bodyPost_ret (v := .tuple #[.agg #[.int .i64 o.kind, .int .i64 o.result, .slice mo' o.mem.length mc', .slice lo' o.leak.length lc'], .int .i64 e]) ?_ rfl ?_
  · simp [results, Try.results24, go_sem, y0, y1, y2, y3]
  · exact HF.out

end Go.Proofs.Ytblhmeidbjigaaa

/- Lists of words held against each other. -/
set_option linter.unusedSimpArgs false
set_option linter.unusedVariables false
namespace Go.Proofs.Ytblhmeidbjigaaa
open Go.RowKit

/-- What lies in memory of one's own is read. -/
theorem owns_rd {w : World} {B : Nat} {v : Value} {l : List Int} (h : w.ownsRow B 3 1 v l.length (ints l)) : RdWords w v l := by
  obtain ⟨ao, cap, rfl⟩ := owns_slice h
  refine ⟨ao, cap, rfl, owns_le h, fun i hi => ?_⟩
  obtain ⟨b, rfl, _, hb, hc⟩ := owns_cell h rfl (i := i) (by rw [ints_length]; exact hi)
  refine ⟨b, 0, rfl, ?_⟩
  rw [Nat.zero_add, hc]
  simp [ints, List.getD, hi]

set_option maxRecDepth 100000 in
set_option maxHeartbeats 1000000 in
theorem kSameInts_any (v u : Value) (l : List Int) (w : World) (hv : RdWords w v l) (hu : RdWords w u l) :
    Calls Try.prog 25 #[v, u] w fun e w' => e = .returned (.bool true) ∧ Below w.heap.size w w' := by
  obtain ⟨ao, cap, rfl, hl, hc⟩ := hv
  obtain ⟨bo, cap2, rfl, _, hd⟩ := hu
  go_enter Try.func25, Try.ntmps25
  go_wp2
  go_loopw [5] (fun i wr => ∃ (k : Nat), k ≤ l.length ∧ i = .int .i64 k ∧ Below w.heap.size w wr)
    (fun i _ => l.length - (intOf i).toNat)
  case atStart => exact ⟨0, Nat.zero_le _, rfl, Below.refl _ _⟩
  case round =>
    obtain ⟨k, hk, rfl, hbel⟩ := hrel
    by_cases hlt : k < l.length
    · obtain ⟨b, off, rfl, h1⟩ := hc k hlt
      obtain ⟨b2, off2, rfl, h2⟩ := hd k hlt
      have g1 := cell_keep hbel h1
      have g2 := cell_keep hbel h2
      have hki : (k : Int) < (l.length : Int) := by omega
      have hbd : ∀ d, Below w.heap.size w (wr.drewN d) := fun d => below_drewN hbel d
      clear h1 h2 hc hd
      generalize l.getD k 0 = x at *
      go_wp2
      go_quiet (fail)
      go_wp2
      go_roundw
      case rel => exact ⟨k + 1, by omega, by go_num, hbd _⟩
      case measure => simp [intOf]; omega
    · go_wp2
      go_ret
      exact ⟨rfl, hbel⟩

set_option maxRecDepth 100000 in
set_option maxHeartbeats 1000000 in
theorem kSameOutcome_any (k r : Int) (mv lv mv2 lv2 : Value) (m l : List Int) (w : World) (hm : RdWords w mv m) (hl : RdWords w lv l) (hm2 : RdWords w mv2 m) (hl2 : RdWords w lv2 l) :
    Calls Try.prog 26 #[.agg #[.int .i64 k, .int .i64 r, mv, lv], .agg #[.int .i64 k, .int .i64 r, mv2, lv2]] w fun e w' => e = .returned (.bool true) ∧ Below w.heap.size w w' := by
  obtain ⟨mo, mc, rfl, _, _⟩ := id hm
  obtain ⟨lo, lc, rfl, _, _⟩ := id hl
  obtain ⟨mo2, mc2, rfl, _, _⟩ := id hm2
  obtain ⟨lo2, lc2, rfl, _, _⟩ := id hl2
  have rA : Row ((w.alloc (.cells #[.int .i64 k, .int .i64 r, .slice mo m.length mc, .slice lo l.length lc] 54)).alloc (.cells #[.int .i64 k, .int .i64 r, .slice mo2 m.length mc2, .slice lo2 l.length lc2] 54)) w.heap.size 54 [.int .i64 k, .int .i64 r, .slice mo m.length mc, .slice lo l.length lc] := by
    have q : Row (w.alloc (.cells #[.int .i64 k, .int .i64 r, .slice mo m.length mc, .slice lo l.length lc] 54)) w.heap.size 54 [.int .i64 k, .int .i64 r, .slice mo m.length mc, .slice lo l.length lc] := heap_alloc_new w _
    exact q.alloc _
  have rB : Row ((w.alloc (.cells #[.int .i64 k, .int .i64 r, .slice mo m.length mc, .slice lo l.length lc] 54)).alloc (.cells #[.int .i64 k, .int .i64 r, .slice mo2 m.length mc2, .slice lo2 l.length lc2] 54)) (w.heap.size + 1) 54 [.int .i64 k, .int .i64 r, .slice mo2 m.length mc2, .slice lo2 l.length lc2] := heap_alloc2_new w _ _
  have hbW : Below w.heap.size w ((w.alloc (.cells #[.int .i64 k, .int .i64 r, .slice mo m.length mc, .slice lo l.length lc] 54)).alloc (.cells #[.int .i64 k, .int .i64 r, .slice mo2 m.length mc2, .slice lo2 l.length lc2] 54)) := ((Below.refl w.heap.size w).alloc (Nat.le_refl _) _).alloc (by simp) _
  have a2 := rA.cell (i := 2) rfl
  have b2 := rB.cell (i := 2) rfl
  go_enter Try.func26, Try.ntmps26
  go_wp2_with fail
  refine (kSameInts_any _ _ m _ (hm.keep hbW) (hm2.keep hbW)).mono ?_
  rintro e w1 ⟨rfl, hb1⟩
  have hb01 := hbW.trans (hb1.mono (by simp; omega))
  have a3 := (rA.keep hb1).cell (i := 3) rfl
  have b3 := (rB.keep hb1).cell (i := 3) rfl
  have rA1 := rA.keep hb1
  have rB1 := rB.keep hb1
  clear rA rB a2 b2 hb1 hbW
  go_wp2_with fail
  refine (kSameInts_any _ _ l _ (hl.keep hb01) (hl2.keep hb01)).mono ?_
  rintro e w2 ⟨rfl, hb2⟩
  have hb02 := hb01.trans (hb2.mono hb01.size)
  have a0 := (rA1.keep hb2).cell (i := 0) rfl
  have b0 := (rB1.keep hb2).cell (i := 0) rfl
  have a1 := (rA1.keep hb2).cell (i := 1) rfl
  have b1 := (rB1.keep hb2).cell (i := 1) rfl
  go_wp2
  go_ret
  exact ⟨by simp, hb02⟩

theorem prefix_get {a b : List Int} (h : a <+: b) {k : Nat} (hk : k < a.length) : b.getD k 0 = a.getD k 0 := by
  obtain ⟨t, rfl⟩ := h
  simp [List.getD, hk, List.getElem?_append_left hk]

set_option maxRecDepth 100000 in
set_option maxHeartbeats 1000000 in
theorem prefix_any (v u : Value) (l m : List Int) (w : World) (hv : RdWords w v l) (hu : RdWords w u m) (hp : l <+: m) :
    Calls Try.prog 27 #[v, u] w fun e w' => e = .returned (.bool true) ∧ Below w.heap.size w w' := by
  obtain ⟨ao, cap, rfl, hl, hc⟩ := hv
  obtain ⟨bo, cap2, rfl, _, hd⟩ := hu
  have hlm := hp.length_le
  have hle : (l.length : Int) ≤ (m.length : Int) := by omega
  go_enter Try.func27, Try.ntmps27
  go_wp2
  go_loopw [5] (fun i wr => ∃ (k : Nat), k ≤ l.length ∧ i = .int .i64 k ∧ Below w.heap.size w wr)
    (fun i _ => l.length - (intOf i).toNat)
  case atStart => exact ⟨0, Nat.zero_le _, rfl, Below.refl _ _⟩
  case round =>
    obtain ⟨k, hk, rfl, hbel⟩ := hrel
    by_cases hlt : k < l.length
    · obtain ⟨b, off, rfl, h1⟩ := hc k hlt
      obtain ⟨b2, off2, rfl, h2⟩ := hd k (by omega)
      rw [prefix_get hp hlt] at h2
      have g1 := cell_keep hbel h1
      have g2 := cell_keep hbel h2
      have hki : (k : Int) < (l.length : Int) := by omega
      have hkj : (k : Int) < (m.length : Int) := by omega
      have hbd : ∀ d, Below w.heap.size w (wr.drewN d) := fun d => below_drewN hbel d
      clear h1 h2 hc hd
      generalize l.getD k 0 = x at *
      go_wp2
      go_quiet (fail)
      go_wp2
      go_roundw
      case rel => exact ⟨k + 1, by omega, by go_num, hbd _⟩
      case measure => simp [intOf]; omega
    · go_wp2
      go_ret
      exact ⟨rfl, hbel⟩

end Go.Proofs.Ytblhmeidbjigaaa

/- Lists cut or filled up to a length; an input for a program. -/
set_option linter.unusedSimpArgs false
set_option linter.unusedVariables false
namespace Go.Proofs.Ytblhmeidbjigaaa
open Go.RowKit

def padTo (l : List Int) (n : Nat) : List Int := (List.range n).map fun i => l.getD i 0

theorem padTo_length (l : List Int) (n : Nat) : (padTo l n).length = n := by simp [padTo]

theorem padTo_snoc (l : List Int) (n : Nat) : ints (padTo l (n + 1)) = ints (padTo l n) ++ [.int .i64 (l.getD n 0)] := by
  rw [← ints_snoc]
  simp [padTo, List.range_succ]

set_option maxRecDepth 100000 in
set_option maxHeartbeats 2000000 in
theorem kList_cps (v : Value) (l : List Int) (n : Nat) (w : World) (hr : RdWords w v l) (hn : n ≤ 1000) (Post : Ending → World → Prop)
    (hp : ∀ v' w', w'.ownsRow w.heap.size 3 1 v' (padTo l n).length (ints (padTo l n)) → Below w.heap.size w w' → Post (.returned v') w') :
    Calls Try.prog 58 #[v, .int .i64 n] w Post := by
  obtain ⟨ao, cap, rfl, hll, hc⟩ := hr
  obtain ⟨i0, ii, iz0, iz1, iz2⟩ := info_parts Try.infoInt
  go_enter Try.func58, Try.ntmps58
  go_wp2
  go_loopw [5, 6] (fun o i wr => ∃ (k : Nat), k ≤ n ∧ i = .int .i64 k ∧ wr.ownsRow w.heap.size 3 1 o k (ints (padTo l k)) ∧ Below w.heap.size w wr)
    (fun _ i _ => n - (intOf i).toNat)
  case atStart => exact ⟨0, Nat.zero_le _, rfl, World.ownsRow_nil _ _ _ _, Below.refl _ _⟩
  case round =>
    obtain ⟨k, hk, rfl, hown, hbel⟩ := hrel
    obtain ⟨lo, lc, rfl⟩ := owns_slice hown
    have hz := hbel.size
    by_cases hlt : k < n
    · have HT : Hid (ints (padTo l (k + 1)) = ints (padTo l k) ++ [.int .i64 (l.getD k 0)]) := padTo_snoc l k
      by_cases hin : k < l.length
      · obtain ⟨b, off, rfl, h1⟩ := hc k hin
        have h2 := cell_keep hbel h1
        clear h1
        generalize l.getD k 0 = x at *
        go_wp2_with (at_builtin; refine wpList_append_own _ rfl _ _ 36 rfl w.heap.size 3 i0 (.int .i64 0) 1 8 Try.underlying36 ii iz0 iz1 iz2 rfl (by decide) _ _ _ rfl (hown.alloc _) ⟨wr.heap.size, 0, none⟩ 1 1 [.int .i64 x] rfl rfl ?c1 (int_one _) ?c3 ?c4 ?c5 ?_)
        case c1 => exact one_new wr _ _
        case c3 => unfold maxLen; omega
        case c4 => omega
        case c5 => simp; omega
        intro v' w3 hown' hgrow _
        rw [← HT.out] at hown'
        have hb3 := (hbel.alloc hz (.cells #[.int .i64 x] 3)).grown hgrow (by simp; omega) (fun g hg => (hown.lt g hg).1)
        obtain ⟨lo', lc', rfl⟩ := owns_slice hown'
        clear hgrow hown h2 hbel HT
        go_wp2
        go_roundw
        case rel => exact ⟨k + 1, by omega, by go_num, hown', hb3⟩
        case measure => simp [intOf]; omega
      · have hx : l.getD k 0 = 0 := by simp [List.getD, hin]
        rw [hx] at HT
        go_wp2_with (at_builtin; refine wpList_append_own _ rfl _ _ 36 rfl w.heap.size 3 i0 (.int .i64 0) 1 8 Try.underlying36 ii iz0 iz1 iz2 rfl (by decide) _ _ _ rfl (hown.alloc _) ⟨wr.heap.size, 0, none⟩ 1 1 [.int .i64 0] rfl rfl ?d1 (int_one _) ?d3 ?d4 ?d5 ?_)
        case d1 => exact one_new wr _ _
        case d3 => unfold maxLen; omega
        case d4 => omega
        case d5 => simp; omega
        intro v' w3 hown' hgrow _
        rw [← HT.out] at hown'
        have hb3 := (hbel.alloc hz (.cells #[.int .i64 0] 3)).grown hgrow (by simp; omega) (fun g hg => (hown.lt g hg).1)
        obtain ⟨lo', lc', rfl⟩ := owns_slice hown'
        clear hgrow hown hbel HT
        go_wp2
        go_roundw
        case rel => exact ⟨k + 1, by omega, by go_num, hown', hb3⟩
        case measure => simp [intOf]; omega
    · obtain rfl : k = n := by omega
      have HF : Hid (Post (.returned (.slice lo k lc)) wr) := hp _ _ (by rw [padTo_length]; exact hown) hbel
      clear hp hown hbel hc
      go_wp2
      exact HF.out

/-- An input in memory of its own. -/
structure OwnIn (w w' : World) (av mv sv : Value) (a m s : List Int) : Prop where
  args : RdWords w' av a
  mem : RdWords w' mv m
  spill : RdWords w' sv s
  below : Below w.heap.size w w'

set_option maxRecDepth 100000 in
set_option maxHeartbeats 2000000 in
theorem suited_cps (a1 : Int) (a0 a2 a3 : Nat) (pv v0 v1 v2 : Value) (l0 l1 l2 : List Int) (w : World) (h0 : RdWords w v0 l0) (h1 : RdWords w v1 l1) (h2 : RdWords w v2 l2) (hn0 : a0 ≤ 8) (hn2 : a2 ≤ 8) (hn3 : a3 ≤ 8) (hpv : ∃ po pn pc, pv = .slice po pn pc) (Post : Ending → World → Prop)
    (hp : ∀ av mv sv w', OwnIn w w' av mv sv (padTo l0 a0) (padTo l1 a2) (padTo l2 a3) → Post (.returned (.agg #[av, mv, sv])) w') :
    Calls Try.prog 22 #[.agg #[.int .i64 a0, .int .i64 a1, .int .i64 a2, .int .i64 a3, pv], v0, v1, v2] w Post := by
  obtain ⟨po, pn, pc, rfl⟩ := hpv
  obtain ⟨o0, c0, rfl, _, _⟩ := id h0
  obtain ⟨o1, c1, rfl, _, _⟩ := id h1
  obtain ⟨o2, c2, rfl, _, _⟩ := id h2
  obtain ⟨W, hW⟩ : ∃ W, W = ((w.alloc (.cells #[.int .i64 a0, .int .i64 a1, .int .i64 a2, .int .i64 a3, .slice po pn pc] 24)).alloc (.cells #[.slice none 0 0, .slice none 0 0, .slice none 0 0] 52)).alloc (.cells #[.slice none 0 0, .slice none 0 0, .slice none 0 0] 52) := ⟨_, rfl⟩
  have hzW : w.heap.size + 3 ≤ W.heap.size := by rw [hW]; simp
  have rP : Row W w.heap.size 24 [.int .i64 a0, .int .i64 a1, .int .i64 a2, .int .i64 a3, .slice po pn pc] := by
    rw [hW]
    have q : Row (w.alloc (.cells #[.int .i64 a0, .int .i64 a1, .int .i64 a2, .int .i64 a3, .slice po pn pc] 24)) w.heap.size 24 [.int .i64 a0, .int .i64 a1, .int .i64 a2, .int .i64 a3, .slice po pn pc] := heap_alloc_new w _
    exact (q.alloc _).alloc _
  have rA : Row W (w.heap.size + 1) 52 [.slice none 0 0, .slice none 0 0, .slice none 0 0] := by
    rw [hW]
    have q : Row ((w.alloc (.cells #[.int .i64 a0, .int .i64 a1, .int .i64 a2, .int .i64 a3, .slice po pn pc] 24)).alloc (.cells #[.slice none 0 0, .slice none 0 0, .slice none 0 0] 52)) (w.heap.size + 1) 52 [.slice none 0 0, .slice none 0 0, .slice none 0 0] := heap_alloc2_new w _ _
    exact q.alloc _
  have rI : Row W (w.heap.size + 2) 52 [.slice none 0 0, .slice none 0 0, .slice none 0 0] := by
    rw [hW]
    have q := heap_alloc2_new (w.alloc (.cells #[.int .i64 a0, .int .i64 a1, .int .i64 a2, .int .i64 a3, .slice po pn pc] 24)) (.cells #[.slice none 0 0, .slice none 0 0, .slice none 0 0] 52) (.cells #[.slice none 0 0, .slice none 0 0, .slice none 0 0] 52)
    simp only [World.size_alloc] at q
    exact q
  have hbW : Below w.heap.size w W := by rw [hW]; exact (((Below.refl w.heap.size w).alloc (Nat.le_refl _) _).alloc (by simp) _).alloc (by simp; omega) _
  have p0 := rP.cell (i := 0) rfl
  rw [hW] at p0
  go_enter Try.func22, Try.ntmps22
  go_wp2_with fail
  rw [← hW]
  clear hW p0
  refine kList_cps _ l0 a0 W (h0.keep hbW) (by omega) _ ?_
  intro x1 w1 own1 hb1
  have hz1 : W.heap.size ≤ w1.heap.size := by have := hb1.size; (try simp at this); omega
  have rP1 := (rP.keep hb1).unset (a := ⟨w.heap.size + 2, 0, none⟩) (by show w.heap.size ≠ w.heap.size + 2; omega) x1
  have rA1 := (rA.keep hb1).unset (a := ⟨w.heap.size + 2, 0, none⟩) (by show w.heap.size + 1 ≠ w.heap.size + 2; omega) x1
  have rJ1 := rI.keep hb1
  have rI1 := rJ1.set 0 x1
  have hb01 := (hbW.trans (hb1.mono (by first | omega | (simp; omega)))).setCell (p := ⟨w.heap.size + 2, 0, none⟩) (by show w.heap.size ≤ w.heap.size + 2; omega) x1
  have own1t1 := ownsRow_setCell_below (owns_base own1 (show W.heap.size ≤ _ by first | exact Nat.le_refl _ | (simp; omega))) (a := ⟨w.heap.size + 2, 0, none⟩) (by show w.heap.size + 2 < W.heap.size; omega) x1
  have z1 := rJ1.cell (i := 0) rfl
  have zf1 := rJ1.frozen 0
  obtain ⟨xo1, xc1, hx1⟩ := owns_slice own1
  rw [padTo_length] at hx1
  subst hx1
  have p2 := rP1.cell (i := 2) rfl
  clear own1
  go_wp2_with fail
  refine kList_cps _ l1 a2 _ (h1.keep hb01) (by omega) _ ?_
  clear p2 z1 zf1 rJ1
  intro x2 w2 own2 hb2
  have hz2 : W.heap.size ≤ w2.heap.size := by have := hb2.size; (try simp at this); omega
  have rP2 := (rP1.keep hb2).unset (a := ⟨w.heap.size + 2, 1, none⟩) (by show w.heap.size ≠ w.heap.size + 2; omega) x2
  have rA2 := (rA1.keep hb2).unset (a := ⟨w.heap.size + 2, 1, none⟩) (by show w.heap.size + 1 ≠ w.heap.size + 2; omega) x2
  have rJ2 := rI1.keep hb2
  have rI2 := rJ2.set 1 x2
  have hb02 := (hb01.trans (hb2.mono (by first | omega | (simp; omega)))).setCell (p := ⟨w.heap.size + 2, 1, none⟩) (by show w.heap.size ≤ w.heap.size + 2; omega) x2
  have own1t2 := ownsRow_setCell_below (owns_below own1t1 hb2 (Nat.le_refl _)) (a := ⟨w.heap.size + 2, 1, none⟩) (by show w.heap.size + 2 < W.heap.size; omega) x2
  have own2t2 := ownsRow_setCell_below (owns_base own2 (show W.heap.size ≤ _ by first | exact Nat.le_refl _ | (simp; omega))) (a := ⟨w.heap.size + 2, 1, none⟩) (by show w.heap.size + 2 < W.heap.size; omega) x2
  have z2 := rJ2.cell (i := 1) rfl
  have zf2 := rJ2.frozen 1
  obtain ⟨xo2, xc2, hx2⟩ := owns_slice own2
  rw [padTo_length] at hx2
  subst hx2
  have p3 := rP2.cell (i := 3) rfl
  clear own2
  go_wp2_with fail
  refine kList_cps _ l2 a3 _ (h2.keep hb02) (by omega) _ ?_
  clear p3 z2 zf2 rJ2
  intro x3 w3 own3 hb3
  have hz3 : W.heap.size ≤ w3.heap.size := by have := hb3.size; (try simp at this); omega
  have rP3 := (rP2.keep hb3).unset (a := ⟨w.heap.size + 2, 2, none⟩) (by show w.heap.size ≠ w.heap.size + 2; omega) x3
  have rA3 := (rA2.keep hb3).unset (a := ⟨w.heap.size + 2, 2, none⟩) (by show w.heap.size + 1 ≠ w.heap.size + 2; omega) x3
  have rJ3 := rI2.keep hb3
  have rI3 := rJ3.set 2 x3
  have hb03 := (hb02.trans (hb3.mono (by first | omega | (simp; omega)))).setCell (p := ⟨w.heap.size + 2, 2, none⟩) (by show w.heap.size ≤ w.heap.size + 2; omega) x3
  have own1t3 := ownsRow_setCell_below (owns_below own1t2 hb3 (Nat.le_refl _)) (a := ⟨w.heap.size + 2, 2, none⟩) (by show w.heap.size + 2 < W.heap.size; omega) x3
  have own2t3 := ownsRow_setCell_below (owns_below own2t2 hb3 (Nat.le_refl _)) (a := ⟨w.heap.size + 2, 2, none⟩) (by show w.heap.size + 2 < W.heap.size; omega) x3
  have own3t3 := ownsRow_setCell_below (owns_base own3 (show W.heap.size ≤ _ by first | exact Nat.le_refl _ | (simp; omega))) (a := ⟨w.heap.size + 2, 2, none⟩) (by show w.heap.size + 2 < W.heap.size; omega) x3
  have z3 := rJ3.cell (i := 2) rfl
  have zf3 := rJ3.frozen 2
  obtain ⟨xo3, xc3, hx3⟩ := owns_slice own3
  rw [padTo_length] at hx3
  subst hx3
  have i0 := rI3.cell (i := 0) rfl
  have i1 := rI3.cell (i := 1) rfl
  have i2 := rI3.cell (i := 2) rfl
  have y0 := rA3.cell (i := 0) rfl
  have y1 := rA3.cell (i := 1) rfl
  have y2 := rA3.cell (i := 2) rfl
  have f0 := rA3.frozen 0
  have f1 := rA3.frozen 1
  have f2 := rA3.frozen 2
  have fin : ∀ {v : Value} {l : List Int} {W3 : World}, W3.ownsRow W.heap.size 3 1 v l.length (ints l) → RdWords (((W3.setCell ⟨w.heap.size + 1, 0, none⟩ (.slice xo1 a0 xc1)).setCell ⟨w.heap.size + 1, 1, none⟩ (.slice xo2 a2 xc2)).setCell ⟨w.heap.size + 1, 2, none⟩ (.slice xo3 a3 xc3)) v l := fun ho =>
    owns_rd (ownsRow_setCell_below (ownsRow_setCell_below (ownsRow_setCell_below ho (by show w.heap.size + 1 < W.heap.size; omega) _) (by show w.heap.size + 1 < W.heap.size; omega) _) (by show w.heap.size + 1 < W.heap.size; omega) _)
  have HF : Hid _ := hp _ _ _ _ ⟨fin own1t3, fin own2t3, fin own3t3, ((hb03.setCell (p := ⟨w.heap.size + 1, 0, none⟩) (by show w.heap.size ≤ w.heap.size + 1; omega) _).setCell (p := ⟨w.heap.size + 1, 1, none⟩) (by show w.heap.size ≤ w.heap.size + 1; omega) _).setCell (p := ⟨w.heap.size + 1, 2, none⟩) (by show w.heap.size ≤ w.heap.size + 1; omega) _⟩
  clear hp fin own1t1 own1t2 own2t2 own1t3 own2t3 own3t3 own3 rP rA rI rP1 rA1 rI1 rP2 rA2 rI2 rP3 rA3 rI3 hb01 hb02 hb03 hbW hb1 hb2 hb3 h0 h1 h2
  go_wp2
  (try simp only [Exit.inBlock, Exit.then])
  refine bodyPost_ret (v := .agg #[.slice xo1 a0 xc1, .slice xo2 a2 xc2, .slice xo3 a3 xc3]) ?_ rfl ?_
  · simp [results, Try.results22, go_sem, y0, y1, y2]
  · simp only [show w.heap.size + 1 + 1 = w.heap.size + 2 from rfl]
    with_reducible exact HF.out

end Go.Proofs.Ytblhmeidbjigaaa

/- Runs with more fuel, pure. -/
set_option linter.unusedSimpArgs false
set_option linter.unusedVariables false
namespace Go.Proofs.Ytblhmeidbjigaaa
open Go.RowKit

theorem step_trap {s : RunD} (o : OpD) (h : s.trap = 0) : (stepOp s o).trap = 0 ∨ (stepOp s o).trap = 2 ∨ (stepOp s o).trap = 3 := by
  unfold stepOp
  repeat' split
  all_goals simp [RunD.reg, RunD.out, RunD.die, RunD.cell, RunD.slot, h]

theorem step_pre (s : RunD) (o : OpD) : s.leak <+: (stepOp s o).leak := by
  unfold stepOp
  repeat' split
  all_goals simp [RunD.reg, RunD.out, RunD.die, RunD.cell, RunD.slot]

theorem doOps_kinds (l : List OpD) {s : RunD} (h : s.trap = 0) : (doOps l s).trap = 0 ∨ (doOps l s).trap = 2 ∨ (doOps l s).trap = 3 := by
  induction l generalizing s with
  | nil => exact .inl h
  | cons o r ih =>
    simp only [doOps, h, if_true]
    rcases step_trap o h with q | q | q
    · exact ih q
    · rw [doOps_trap r (by omega)]; exact .inr (.inl q)
    · rw [doOps_trap r (by omega)]; exact .inr (.inr q)

theorem doOps_pre (l : List OpD) (s : RunD) : s.leak <+: (doOps l s).leak := by
  induction l generalizing s with
  | nil => exact List.prefix_rfl
  | cons o r ih =>
    simp only [doOps]
    split
    · exact (step_pre s o).trans (ih _)
    · exact List.prefix_rfl

theorem goesOn_pre (s : RunD) (e : EndD) : s.leak <+: (goesOn s e).leak := by
  unfold goesOn
  split
  · simp [RunD.out]
  · exact List.prefix_rfl

theorem runN_pre (bs : List BlockD) (f : Nat) (i : Int) (s : RunD) : s.leak <+: (runN bs f i s).leak := by
  induction f generalizing i s with
  | zero => exact List.prefix_rfl
  | succ f ih =>
    have h := doOps_pre (bops bs i.toNat) s
    simp only [runN]
    split
    · exact h
    · split
      · exact h
      · exact (h.trans (goesOn_pre _ _)).trans (ih _ _)

theorem runN_kind (bs : List BlockD) (f : Nat) (i : Int) {s : RunD} (h : s.trap = 0) : 1 ≤ (runN bs f i s).kind ∧ (runN bs f i s).kind ≤ 4 := by
  induction f generalizing i s with
  | zero => simp [runN]
  | succ f ih =>
    have hk := doOps_kinds (bops bs i.toNat) h
    simp only [runN]
    split
    · simp only; omega
    · rename_i ht
      split
      · simp
      · exact ih _ (by rw [goesOn_trap]; omega)

/-- With more fuel: what has ended stays; what has not goes on as it began. -/
theorem runN_more (bs : List BlockD) (f d : Nat) (i : Int) {s : RunD} (h : s.trap = 0) :
    ((runN bs f i s).kind ≠ 4 → runN bs (f + d) i s = runN bs f i s) ∧ ((runN bs f i s).kind = 4 → (runN bs f i s).leak <+: (runN bs (f + d) i s).leak ∧ (runN bs f i s).result = 0) := by
  induction f generalizing i s with
  | zero =>
    refine ⟨fun c => absurd rfl c, fun _ => ⟨?_, rfl⟩⟩
    exact runN_pre bs _ i s
  | succ f ih =>
    rw [Nat.succ_add]
    have hk := doOps_kinds (bops bs i.toNat) h
    simp only [runN]
    by_cases ht : (doOps (bops bs i.toNat) s).trap = 0
    · simp only [ht, ne_eq, not_true_eq_false, if_false]
      by_cases h3 : bek bs i.toNat = 3
      · simp [h3]
      · simp only [h3, if_false]
        exact ih _ (by rw [goesOn_trap]; exact ht)
    · simp only [ht, ne_eq, not_false_eq_true, if_true]
      refine ⟨fun _ => trivial, fun c => ?_⟩
      omega

end Go.Proofs.Ytblhmeidbjigaaa
