/- The machine begins: lists of its own. -/
import Derived.Test.YtdjdjkgoelbbdaaRLeaToMCop
import Derived.Test.YtdjdjkgoelbbdaaPTxtToPLawH
set_option linter.unusedSimpArgs false
set_option linter.unusedVariables false
namespace Go.Proofs.Ytdjdjkgoelbbdaa
open Go.RowKit

set_option maxRecDepth 100000 in
set_option maxHeartbeats 400000 in
theorem begin_cps (r a2 a3 : Int) (pv av mv sv : Value) (args mem spill : List Int) (w : World) (ha : RdWords w av args) (hm : RdWords w mv mem) (hs : RdWords w sv spill) (hla : (args.length : Int) ≤ r) (hr : r ≤ 8) (hlm : mem.length ≤ 8) (hls : spill.length ≤ 8) (hpv : ∃ po pn pc, pv = .slice po pn pc) (Post : Ending → World → Prop)
    (hp : ∀ rv cv sv w', Bunch (fun g => g < w.heap.size) w' rv cv sv (.slice none 0 0) ⟨regs0 args (r - args.length).toNat, mem, spill, [], 0⟩ → Below w.heap.size w w' → Post (.returned (.agg #[rv, cv, sv, .slice none 0 0, .int .i64 0])) w') :
    Calls Try.prog 92 #[.agg #[.int .i64 args.length, .int .i64 r, .int .i64 a2, .int .i64 a3, pv], .agg #[av, mv, sv]] w Post := by
  obtain ⟨i0, ii, iz0, iz1, iz2⟩ := info_parts Try.infoInt
  obtain ⟨po, pn, pc, rfl⟩ := hpv
  obtain ⟨ao, ac, rfl, _, _⟩ := id ha
  obtain ⟨mo, mc, rfl, _, _⟩ := id hm
  obtain ⟨so, sc, rfl, _, _⟩ := id hs
  obtain ⟨W, hW⟩ : ∃ W, W = ((w.alloc (.cells #[.int .i64 args.length, .int .i64 r, .int .i64 a2, .int .i64 a3, .slice po pn pc] 24)).alloc (.cells #[.slice ao args.length ac, .slice mo mem.length mc, .slice so spill.length sc] 52)).alloc (.cells #[.slice none 0 0, .slice none 0 0, .slice none 0 0, .slice none 0 0, .int .i64 0] 133) := ⟨_, rfl⟩
  have hzW : w.heap.size + 3 ≤ W.heap.size := by rw [hW]; simp
  have rP : Row W w.heap.size 24 [.int .i64 args.length, .int .i64 r, .int .i64 a2, .int .i64 a3, .slice po pn pc] := by
    rw [hW]
    have q : Row (w.alloc (.cells #[.int .i64 args.length, .int .i64 r, .int .i64 a2, .int .i64 a3, .slice po pn pc] 24)) w.heap.size 24 [.int .i64 args.length, .int .i64 r, .int .i64 a2, .int .i64 a3, .slice po pn pc] := heap_alloc_new w _
    exact (q.alloc _).alloc _
  have rI : Row W (w.heap.size + 1) 52 [.slice ao args.length ac, .slice mo mem.length mc, .slice so spill.length sc] := by
    rw [hW]
    have q : Row ((w.alloc (.cells #[.int .i64 args.length, .int .i64 r, .int .i64 a2, .int .i64 a3, .slice po pn pc] 24)).alloc (.cells #[.slice ao args.length ac, .slice mo mem.length mc, .slice so spill.length sc] 52)) (w.heap.size + 1) 52 [.slice ao args.length ac, .slice mo mem.length mc, .slice so spill.length sc] := heap_alloc2_new w _ _
    exact q.alloc _
  have rR : Row W (w.heap.size + 2) 133 zMach := by
    rw [hW]
    have q := heap_alloc2_new (w.alloc (.cells #[.int .i64 args.length, .int .i64 r, .int .i64 a2, .int .i64 a3, .slice po pn pc] 24)) (.cells #[.slice ao args.length ac, .slice mo mem.length mc, .slice so spill.length sc] 52) (.cells #[.slice none 0 0, .slice none 0 0, .slice none 0 0, .slice none 0 0, .int .i64 0] 133)
    simp only [World.size_alloc] at q
    exact q
  have hbW : Below w.heap.size w W := by rw [hW]; exact (((Below.refl w.heap.size w).alloc (Nat.le_refl _) _).alloc (by simp) _).alloc (by simp; omega) _
  have x0 := rI.cell (i := 0) rfl
  go_enter Try.func92, Try.ntmps92
  go_wp2_with fail
  rw [← hW]
  clear hW
  refine copied_cps _ args W (ha.keep hbW) (by omega) _ ?_
  intro rv0 w1 own1 hb1
  obtain ⟨ro0, rc0, rfl⟩ := owns_slice own1
  have p0 := (rP.keep hb1).cell (i := 0) rfl
  clear x0
  go_wp2
  go_loopw [5, 6] (fun o i wr => ∃ (j : Nat), (args.length : Int) + j ≤ r ∧ i = .int .i64 ((args.length + j : Nat) : Int) ∧ wr.ownsRow W.heap.size 3 1 o (args.length + j) (ints (regs0 args j)) ∧ Below W.heap.size W wr)
    (fun _ i _ => r.toNat - (intOf i).toNat)
  case atStart => exact ⟨0, by omega, by simp, by simpa [regs0] using own1, hb1⟩
  case round =>
    clear own1 hb1 p0 w1
    obtain ⟨j, hj, rfl, own, hbel⟩ := hrel
    obtain ⟨lo, lc, rfl⟩ := owns_slice own
    have hz := hbel.size
    have p1 := (rP.keep hbel).cell (i := 1) rfl
    by_cases hlt : (args.length : Int) + j < r
    · have HT : Hid (ints (regs0 args (j + 1)) = ints (regs0 args j) ++ [.int .i64 0]) := regs0_snoc args j
      go_wp2_with (at_builtin; refine wpList_append_own _ rfl _ _ 36 rfl W.heap.size 3 i0 (.int .i64 0) 1 8 Try.underlying36 ii iz0 iz1 iz2 rfl (by decide) _ _ _ rfl (own.alloc _) ⟨wr.heap.size, 0, none⟩ 1 1 [.int .i64 0] rfl rfl ?c1 (int_one _) ?c3 ?c4 ?c5 ?_)
      case c1 => exact one_new wr _ _
      case c3 => unfold maxLen; omega
      case c4 => omega
      case c5 => simp; omega
      intro v' w3 hown' hgrow _
      rw [← HT.out] at hown'
      have hb3 := (hbel.alloc hz (.cells #[.int .i64 0] 3)).grown hgrow (by simp; omega) (fun g hg => (own.lt g hg).1)
      obtain ⟨lo', lc', rfl⟩ := owns_slice hown'
      clear hgrow own hbel HT p1
      go_wp2
      go_roundw
      case rel => exact ⟨j + 1, by omega, by go_num, hown', hb3⟩
      case measure => simp [intOf]; omega
    · have hje : j = (r - args.length).toNat := by omega
      rw [← hje] at hp
      have hjl : args.length + j ≤ 8 := by omega
      clear hje
      have rIr := rI.keep hbel
      have rRr := rR.keep hbel
      have hmk : ∀ w', Keep (fun g => g = w.heap.size + 2) wr w' → RdWords w' (.slice mo mem.length mc) mem := fun w' hk => hm.keep (hbW.trans ((hbel.mono (by omega)).trans (hk.toBelow (by omega) (fun g hg => by omega))))
      have hsk : ∀ w', Keep (fun g => g = w.heap.size + 2) wr w' → RdWords w' (.slice so spill.length sc) spill := fun w' hk => hs.keep (hbW.trans ((hbel.mono (by omega)).trans (hk.toBelow (by omega) (fun g hg => by omega))))
      have q1 : ∀ w', Keep (fun g => g = w.heap.size + 2) wr w' → w'.cell? ⟨w.heap.size + 1, 1, none⟩ = some (.slice mo mem.length mc) := fun w' hk => hk.cell (by show ¬ (w.heap.size + 1 = w.heap.size + 2); omega) (rIr.cell (i := 1) rfl)
      have q2 : ∀ w', Keep (fun g => g = w.heap.size + 2) wr w' → w'.cell? ⟨w.heap.size + 1, 2, none⟩ = some (.slice so spill.length sc) := fun w' hk => hk.cell (by show ¬ (w.heap.size + 1 = w.heap.size + 2); omega) (rIr.cell (i := 2) rfl)
      have rRd : Row wr.drew (w.heap.size + 2) 133 zMach := rRr.keep ((Below.refl _ _).drew)
      have kd : Keep (fun g => g = w.heap.size + 2) wr wr.drew := (Keep.refl _ _).below ((Below.refl wr.heap.size wr).drew) (Nat.le_refl _)
      clear rIr
      go_wp2
      go_region_held3 (fun w' => Keep (fun g => g = w.heap.size + 2) wr w') (first | with_reducible exact kwm | with_reducible exact kws | with_reducible exact kd | with_reducible exact ((((kws.setCell (p := ⟨w.heap.size + 2, 0, none⟩) (.inl rfl) _).setCell (p := ⟨w.heap.size + 2, 1, none⟩) (.inl rfl) _).setCell (p := ⟨w.heap.size + 2, 2, none⟩) (.inl rfl) _).setCell (p := ⟨w.heap.size + 2, 3, none⟩) (.inl rfl) _).setCell (p := ⟨w.heap.size + 2, 4, none⟩) (.inl rfl) _ | with_reducible exact ((((kwm.setCell (p := ⟨w.heap.size + 2, 0, none⟩) (.inl rfl) _).setCell (p := ⟨w.heap.size + 2, 1, none⟩) (.inl rfl) _).setCell (p := ⟨w.heap.size + 2, 2, none⟩) (.inl rfl) _).setCell (p := ⟨w.heap.size + 2, 3, none⟩) (.inl rfl) _).setCell (p := ⟨w.heap.size + 2, 4, none⟩) (.inl rfl) _) (first | (go_at_call 104; with_reducible refine copied_cps (.slice mo mem.length mc) mem wr.drew (hmk _ kd) (by omega) _ ?_; intro cv wm ownm hbm; obtain ⟨co, cc, rfl⟩ := owns_slice ownm; have kwm := kd.below hbm kd.size; have rRm := rRd.keep hbm; have z0 := rRm.cell (i := 0) rfl; have f0 := rRm.frozen 0; have z1 := rRm.cell (i := 1) rfl; have f1 := rRm.frozen 1; have z2 := rRm.cell (i := 2) rfl; have f2 := rRm.frozen 2; have z3 := rRm.cell (i := 3) rfl; have f3 := rRm.frozen 3; have z4 := rRm.cell (i := 4) rfl; have f4 := rRm.frozen 4) | (go_at_call 104; with_reducible refine copied_cps (.slice so spill.length sc) spill wm (hsk _ kwm) (by omega) _ ?_; intro sv ws owns hbs; obtain ⟨so', sc', rfl⟩ := owns_slice owns; have kws := kwm.below hbs kwm.size; have rRs := rRm.keep hbs; have y0 := rRs.cell (i := 0) rfl; have e0 := rRs.frozen 0; have y1 := rRs.cell (i := 1) rfl; have e1 := rRs.frozen 1; have y2 := rRs.cell (i := 2) rfl; have e2 := rRs.frozen 2; have y3 := rRs.cell (i := 3) rfl; have e3 := rRs.frozen 3; have y4 := rRs.cell (i := 4) rfl; have e4 := rRs.frozen 4) | (go_at_call 104; with_reducible refine copied_cps (.slice so spill.length sc) spill wr.drew (hsk _ kd) (by omega) _ ?_; intro sv ws owns hbs; obtain ⟨so', sc', rfl⟩ := owns_slice owns; have kws := kd.below hbs kd.size; have rRs := rRd.keep hbs; have y0 := rRs.cell (i := 0) rfl; have e0 := rRs.frozen 0; have y1 := rRs.cell (i := 1) rfl; have e1 := rRs.frozen 1; have y2 := rRs.cell (i := 2) rfl; have e2 := rRs.frozen 2; have y3 := rRs.cell (i := 3) rfl; have e3 := rRs.frozen 3; have y4 := rRs.cell (i := 4) rfl; have e4 := rRs.frozen 4) | (go_at_call 104; with_reducible refine copied_cps (.slice mo mem.length mc) mem ws (hmk _ kws) (by omega) _ ?_; intro cv wm ownm hbm; obtain ⟨co, cc, rfl⟩ := owns_slice ownm; have kwm := kws.below hbm kws.size; have rRm := rRs.keep hbm; have z0 := rRm.cell (i := 0) rfl; have f0 := rRm.frozen 0; have z1 := rRm.cell (i := 1) rfl; have f1 := rRm.frozen 1; have z2 := rRm.cell (i := 2) rfl; have f2 := rRm.frozen 2; have z3 := rRm.cell (i := 3) rfl; have f3 := rRm.frozen 3; have z4 := rRm.cell (i := 4) rfl; have f4 := rRm.frozen 4))
      · have hzm := hbm.size
        have hzs := hbs.size
        have hzd : wr.drew.heap.size = wr.heap.size := rfl
        have ownr : ws.ownsRow W.heap.size 3 1 (.slice lo (args.length + j) lc) (args.length + j) (ints (regs0 args j)) := owns_below (owns_below (w := wr.drew) own hbm (Nat.le_refl _)) hbs (Nat.le_refl _)
        have ownc := owns_below ownm hbs (Nat.le_refl _)
        have owns2 := owns
        have apc : ∀ g, (Value.slice lo (args.length + j) lc).ownBlock = some g → (Value.slice co mem.length cc).ownBlock ≠ some g := fun g e e2 => by have q1 := (own.lt g e).2; have q2 := (ownm.lt g e2).1; omega
        have aps : ∀ g, (Value.slice lo (args.length + j) lc).ownBlock = some g → (Value.slice so' spill.length sc').ownBlock ≠ some g := fun g e e2 => by have q1 := (own.lt g e).2; have q2 := (owns.lt g e2).1; omega
        have acs : ∀ g, (Value.slice co mem.length cc).ownBlock = some g → (Value.slice so' spill.length sc').ownBlock ≠ some g := fun g e e2 => by have q1 := (ownm.lt g e).2; have q2 := (owns.lt g e2).1; omega
        have gec : ∀ g, (Value.slice co mem.length cc).ownBlock = some g → W.heap.size ≤ g := fun g e => by have q2 := (ownm.lt g e).1; omega
        have ges : ∀ g, (Value.slice so' spill.length sc').ownBlock = some g → W.heap.size ≤ g := fun g e => by have q2 := (owns.lt g e).1; omega
        have ger : ∀ g, (Value.slice lo (args.length + j) lc).ownBlock = some g → W.heap.size ≤ g := fun g e => (own.lt g e).1
        have hzl := kws.size
        have hB0 : Bunch (fun g => g < w.heap.size) ws (.slice lo (args.length + j) lc) (.slice co mem.length cc) (.slice so' spill.length sc') (.slice none 0 0) ⟨regs0 args j, mem, spill, [], 0⟩ :=
          ⟨by show World.ownsRow _ _ _ _ _ _ _; simp only [regs0_length]; exact owns_base ownr (Nat.zero_le _), owns_base ownc (Nat.zero_le _), owns_base owns2 (Nat.zero_le _), World.ownsRow_nil _ _ _ _, apc, aps, (fun g _ e2 => by simp [Value.ownBlock] at e2), acs, (fun g _ e2 => by simp [Value.ownBlock] at e2), (fun g _ e2 => by simp [Value.ownBlock] at e2),
            (fun g e c => by have := ger g e; omega), (fun g e c => by have := gec g e; omega), (fun g e c => by have := ges g e; omega), (fun g e c => by simp [Value.ownBlock] at e), (fun g c => by omega)⟩
        have hB5 := ((((hB0.far rRs (by decide) 0 (.slice lo (args.length + j) lc)).far (rRs.set 0 _) (by decide) 1 (.slice co mem.length cc)).far ((rRs.set 0 _).set 1 _) (by decide) 2 (.slice so' spill.length sc')).far (((rRs.set 0 _).set 1 _).set 2 _) (by decide) 3 (.slice none 0 0)).far ((((rRs.set 0 _).set 1 _).set 2 _).set 3 _) (by decide) 4 (.int .i64 0)
        have hK5 := ((((kws.setCell (p := ⟨w.heap.size + 2, 0, none⟩) (.inl rfl) (.slice lo (args.length + j) lc)).setCell (p := ⟨w.heap.size + 2, 1, none⟩) (.inl rfl) (.slice co mem.length cc)).setCell (p := ⟨w.heap.size + 2, 2, none⟩) (.inl rfl) (.slice so' spill.length sc')).setCell (p := ⟨w.heap.size + 2, 3, none⟩) (.inl rfl) (.slice none 0 0)).setCell (p := ⟨w.heap.size + 2, 4, none⟩) (.inl rfl) (.int .i64 0)
        have hb5 := (hbW.trans (hbel.mono (by omega))).trans (hK5.toBelow (B := w.heap.size) (by omega) (fun g hg => by omega))
        have HF := hp _ _ _ _ hB5 hb5
        clear hp hB0 hB5 hK5 hb5 own ownm owns ownr ownc owns2 apc aps acs gec ges ger rP rI rR rRr rRd rRm rRs hbm hbs kwm kws kd hbel hbW
        have HF' : Hid _ := HF
        clear HF
        go_wp2
        (try simp only [Exit.inBlock, Exit.then])
        refine bodyPost_ret (v := .agg #[.slice lo (args.length + j) lc, .slice co mem.length cc, .slice so' spill.length sc', .slice none 0 0, .int .i64 0]) ?_ rfl ?_
        · simp [results, Try.results92, go_sem, y0, y1, y2, y3, y4]
        · simp only [show w.heap.size + 1 + 1 = w.heap.size + 2 from rfl]
          with_reducible exact HF'.out

end Go.Proofs.Ytdjdjkgoelbbdaa

/- What Run answers, pure. -/
set_option linter.unusedSimpArgs false
set_option linter.unusedVariables false
namespace Go.Proofs.Ytdjdjkgoelbbdaa
open Go.RowKit

def outZ : OutD := ⟨0, 0, [], []⟩

def fits (p : ProgD) (args mem spill : List Int) : Prop := (args.length : Int) = p.args ∧ (mem.length : Int) = p.data ∧ (spill.length : Int) = p.slots

def begins (p : ProgD) (args mem spill : List Int) : RunD := ⟨regs0 args (p.regs - args.length).toNat, mem, spill, [], 0⟩

/-- The document's answer: the outcome and the error. -/
def RunAns (s : ByteArray) (args mem spill : List Int) (fuel : Int) (o : OutD) (e : Int) : Prop :=
  (e = 1 ∧ o = outZ ∧ ∀ p, progGood p = true → str (progText p) ≠ s) ∨
  ∃ p, progGood p = true ∧ str (progText p) = s ∧
    ((e = 3 ∧ o = outZ ∧ ¬ fits p args mem spill) ∨ (e = 4 ∧ o = outZ ∧ fits p args mem spill ∧ ¬ (0 ≤ fuel ∧ fuel ≤ 300)) ∨
      (e = 0 ∧ fits p args mem spill ∧ (0 ≤ fuel ∧ fuel ≤ 300) ∧ o = runN p.blocks fuel.toNat 0 (begins p args mem spill)))

theorem RunAns.one {s : ByteArray} {args mem spill : List Int} {fuel : Int} {o o' : OutD} {e e' : Int} (h : RunAns s args mem spill fuel o e) (h' : RunAns s args mem spill fuel o' e') : o = o' ∧ e = e' := by
  rcases h with ⟨rfl, rfl, h1⟩ | ⟨p, hg, ht, h1⟩
  · rcases h' with ⟨rfl, rfl, _⟩ | ⟨q, hg, ht, _⟩
    · exact ⟨rfl, rfl⟩
    · exact absurd ht (h1 q hg)
  · rcases h' with ⟨rfl, rfl, h2⟩ | ⟨q, hg', ht', h2⟩
    · exact absurd ht (h2 p hg)
    · obtain rfl : p = q := prog_one hg hg' (ht.trans ht'.symm)
      rcases h1 with ⟨rfl, rfl, a⟩ | ⟨rfl, rfl, a, b⟩ | ⟨rfl, a, b, rfl⟩
      · rcases h2 with ⟨rfl, rfl, _⟩ | ⟨_, _, c, _⟩ | ⟨_, c, _, _⟩
        · exact ⟨rfl, rfl⟩
        · exact absurd c a
        · exact absurd c a
      · rcases h2 with ⟨_, _, c⟩ | ⟨rfl, rfl, _, _⟩ | ⟨_, _, c, _⟩
        · exact absurd a c
        · exact ⟨rfl, rfl⟩
        · exact absurd c b
      · rcases h2 with ⟨_, _, c⟩ | ⟨_, _, _, c⟩ | ⟨rfl, _, _, rfl⟩
        · exact absurd a c
        · exact absurd b c
        · exact ⟨rfl, rfl⟩

theorem owns_rebase {w : World} {B : Nat} {e : TypeId} {sz : Nat} {v : Value} {n : Nat} {xs : List Value} (h : w.ownsRow 0 e sz v n xs) (hB : ∀ g, v.ownBlock = some g → B ≤ g) : w.ownsRow B e sz v n xs := by
  refine ⟨h.1, ?_⟩
  rcases h.2 with h2 | ⟨g, cap, cur, rfl, hg, r⟩
  · exact .inl h2
  · exact .inr ⟨g, cap, cur, rfl, hB g rfl, r⟩

/-- What comes out of Run. -/
structure RunOut (w w' : World) (o : OutD) (mv lv : Value) : Prop where
  mem : w'.ownsRow w.heap.size 3 1 mv o.mem.length (ints o.mem)
  leak : w'.ownsRow w.heap.size 3 1 lv o.leak.length (ints o.leak)
  apart : ∀ g, mv.ownBlock = some g → lv.ownBlock ≠ some g
  below : Below w.heap.size w w'

theorem out4_below {B : Nat} {w w' : World} (h : Below B w w') {R : Nat} (hR : B ≤ R) (k r : Int) (m l : Value) : Below B w (out4 w' R k r m l) :=
  (((h.setCell hR _).setCell hR _).setCell hR _).setCell hR _

theorem runOut_nil {w w' : World} (h : Below w.heap.size w w') : RunOut w w' outZ (.slice none 0 0) (.slice none 0 0) :=
  ⟨World.ownsRow_nil _ _ _ _, World.ownsRow_nil _ _ _ _, fun g e => by simp [Value.ownBlock] at e, h⟩

theorem begins_sized {p : ProgD} {args mem spill : List Int} (hg : progGood p = true) (h : fits p args mem spill) : Sized (begins p args mem spill) p.regs p.data p.slots := by
  simp only [progGood, Bool.and_eq_true, decide_eq_true_eq] at hg
  obtain ⟨h1, h2, h3⟩ := h
  refine ⟨?_, h2, h3⟩
  show ((regs0 args (p.regs - args.length).toNat).length : Int) = p.regs
  rw [regs0_length]
  omega

end Go.Proofs.Ytdjdjkgoelbbdaa
