/- The machine begins: lists of its own. -/
import Derived.Test.YtblhmeidbjigaabGreatDoorRows
import Derived.WalkKit
import Derived.WalkSpells
import Derived.WalkLawsBesides
import Derived.Laws.BytesArg
import Derived.Deep.QuietTactic
import Derived.BigQuiet
import Derived.Deep.RegionHeld3
import Derived.Maps.AppendAt
import Derived.StillTailTactics
import Derived.Lib.ItoaNum
import Derived.Lib.ItoaLen
import Derived.OpenShut
import Derived.Shelf.Strconv.Itoa3
import Derived.Shelf.Lay
import Derived.Ground.NamesProg
import Derived.Lib.SmallJoins
import Derived.Lib.Hide
import Derived.Test.YtblhmeidbjigaabGreatDoorMStoToMCopAll

set_option linter.unusedSimpArgs false
set_option linter.unusedVariables false
namespace Go.Proofs.YtblhmeidbjigaabGreatDoor
open Go.RowKit

set_option maxRecDepth 100000 in
set_option maxHeartbeats 400000 in
theorem begin_cps (r a2 a3 : Int) (pv av mv sv : Value) (args mem spill : List Int) (w : World) (ha : RdWords w av args) (hm : RdWords w mv mem) (hs : RdWords w sv spill) (hla : (args.length : Int) ≤ r) (hr : r ≤ 8) (hlm : mem.length ≤ 8) (hls : spill.length ≤ 8) (hpv : ∃ po pn pc, pv = .slice po pn pc) (Post : Ending → World → Prop)
    (hp : ∀ rv cv sv w', Bunch (fun g => g < w.heap.size) w' rv cv sv (.slice none 0 0) ⟨regs0 args (r - args.length).toNat, mem, spill, [], 0⟩ → Below w.heap.size w w' → Post (.returned (.agg #[rv, cv, sv, .slice none 0 0, .int .i64 0])) w') :
    Calls Tryz.prog 67 #[.agg #[.int .i64 args.length, .int .i64 r, .int .i64 a2, .int .i64 a3, pv], .agg #[av, mv, sv]] w Post := by
  obtain ⟨i0, ii, iz0, iz1, iz2⟩ := info_parts Tryz.infoInt
  obtain ⟨po, pn, pc, rfl⟩ := hpv
  obtain ⟨ao, ac, rfl, _, _⟩ := id ha
  obtain ⟨mo, mc, rfl, _, _⟩ := id hm
  obtain ⟨so, sc, rfl, _, _⟩ := id hs
  obtain ⟨W, hW⟩ : ∃ W, W = ((w.alloc (.cells #[.int .i64 args.length, .int .i64 r, .int .i64 a2, .int .i64 a3, .slice po pn pc] 25)).alloc (.cells #[.slice ao args.length ac, .slice mo mem.length mc, .slice so spill.length sc] 67)).alloc (.cells #[.slice none 0 0, .slice none 0 0, .slice none 0 0, .slice none 0 0, .int .i64 0] 126) := ⟨_, rfl⟩
  have hzW : w.heap.size + 3 ≤ W.heap.size := by rw [hW]; simp
  have rP : Row W w.heap.size 25 [.int .i64 args.length, .int .i64 r, .int .i64 a2, .int .i64 a3, .slice po pn pc] := by
    rw [hW]
    have q : Row (w.alloc (.cells #[.int .i64 args.length, .int .i64 r, .int .i64 a2, .int .i64 a3, .slice po pn pc] 25)) w.heap.size 25 [.int .i64 args.length, .int .i64 r, .int .i64 a2, .int .i64 a3, .slice po pn pc] := heap_alloc_new w _
    exact (q.alloc _).alloc _
  have rI : Row W (w.heap.size + 1) 67 [.slice ao args.length ac, .slice mo mem.length mc, .slice so spill.length sc] := by
    rw [hW]
    have q : Row ((w.alloc (.cells #[.int .i64 args.length, .int .i64 r, .int .i64 a2, .int .i64 a3, .slice po pn pc] 25)).alloc (.cells #[.slice ao args.length ac, .slice mo mem.length mc, .slice so spill.length sc] 67)) (w.heap.size + 1) 67 [.slice ao args.length ac, .slice mo mem.length mc, .slice so spill.length sc] := heap_alloc2_new w _ _
    exact q.alloc _
  have rR : Row W (w.heap.size + 2) 126 zMach := by
    rw [hW]
    have q := heap_alloc2_new (w.alloc (.cells #[.int .i64 args.length, .int .i64 r, .int .i64 a2, .int .i64 a3, .slice po pn pc] 25)) (.cells #[.slice ao args.length ac, .slice mo mem.length mc, .slice so spill.length sc] 67) (.cells #[.slice none 0 0, .slice none 0 0, .slice none 0 0, .slice none 0 0, .int .i64 0] 126)
    simp only [World.size_alloc] at q
    exact q
  have hbW : Below w.heap.size w W := by rw [hW]; exact (((Below.refl w.heap.size w).alloc (Nat.le_refl _) _).alloc (by simp) _).alloc (by simp; omega) _
  have x0 := rI.cell (i := 0) rfl
  go_enter Tryz.func67, Tryz.ntmps67
  go_wp2_with fail
  rw [← hW]
  clear hW
  refine copied_cps _ args W (ha.keep hbW) (by omega) _ ?_
  intro rv0 w1 own1 hb1
  obtain ⟨ro0, rc0, rfl⟩ := owns_slice own1
  have p0 := (rP.keep hb1).cell (i := 0) rfl
  clear x0
  go_wp2
  go_loopw [5, 6] (fun o i wr => ∃ (j : Nat), (args.length : Int) + j ≤ r ∧ i = .int .i64 ((args.length + j : Nat) : Int) ∧ wr.ownsRow W.heap.size 3 1 o (args.length + j) (ints (regs0 args j)) ∧ Below W.heap.size W wr)
    (fun _ i _ => r.toNat - (intOf i).toNat)
  case atStart => exact ⟨0, by omega, by simp, by simpa [regs0] using own1, hb1⟩
  case round =>
    clear own1 hb1 p0 w1
    obtain ⟨j, hj, rfl, own, hbel⟩ := hrel
    obtain ⟨lo, lc, rfl⟩ := owns_slice own
    have hz := hbel.size
    have p1 := (rP.keep hbel).cell (i := 1) rfl
    by_cases hlt : (args.length : Int) + j < r
    · have HT : Hid (ints (regs0 args (j + 1)) = ints (regs0 args j) ++ [.int .i64 0]) := regs0_snoc args j
      go_wp2_with (at_builtin; refine wpList_append_own _ rfl _ _ 22 rfl W.heap.size 3 i0 (.int .i64 0) 1 8 Tryz.underlying22 ii iz0 iz1 iz2 rfl (by decide) _ _ _ rfl (own.alloc _) ⟨wr.heap.size, 0, none⟩ 1 1 [.int .i64 0] rfl rfl ?c1 (int_one _) ?c3 ?c4 ?c5 ?_)
      case c1 => exact one_new wr _ _
      case c3 => unfold maxLen; omega
      case c4 => omega
      case c5 => simp; omega
      intro v' w3 hown' hgrow _
      rw [← HT.out] at hown'
      have hb3 := (hbel.alloc hz (.cells #[.int .i64 0] 3)).grown hgrow (by simp; omega) (fun g hg => (own.lt g hg).1)
      obtain ⟨lo', lc', rfl⟩ := owns_slice hown'
      clear hgrow own hbel HT p1
      go_wp2
      go_roundw
      case rel => exact ⟨j + 1, by omega, by go_num, hown', hb3⟩
      case measure => simp [intOf]; omega
    · have hje : j = (r - args.length).toNat := by omega
      rw [← hje] at hp
      have hjl : args.length + j ≤ 8 := by omega
      clear hje
      have rIr := rI.keep hbel
      have rRr := rR.keep hbel
      have hmk : ∀ w', Keep (fun g => g = w.heap.size + 2) wr w' → RdWords w' (.slice mo mem.length mc) mem := fun w' hk => hm.keep (hbW.trans ((hbel.mono (by omega)).trans (hk.toBelow (by omega) (fun g hg => by omega))))
      have hsk : ∀ w', Keep (fun g => g = w.heap.size + 2) wr w' → RdWords w' (.slice so spill.length sc) spill := fun w' hk => hs.keep (hbW.trans ((hbel.mono (by omega)).trans (hk.toBelow (by omega) (fun g hg => by omega))))
      have q1 : ∀ w', Keep (fun g => g = w.heap.size + 2) wr w' → w'.cell? ⟨w.heap.size + 1, 1, none⟩ = some (.slice mo mem.length mc) := fun w' hk => hk.cell (by show ¬ (w.heap.size + 1 = w.heap.size + 2); omega) (rIr.cell (i := 1) rfl)
      have q2 : ∀ w', Keep (fun g => g = w.heap.size + 2) wr w' → w'.cell? ⟨w.heap.size + 1, 2, none⟩ = some (.slice so spill.length sc) := fun w' hk => hk.cell (by show ¬ (w.heap.size + 1 = w.heap.size + 2); omega) (rIr.cell (i := 2) rfl)
      have rRd : Row wr.drew (w.heap.size + 2) 126 zMach := rRr.keep ((Below.refl _ _).drew)
      have kd : Keep (fun g => g = w.heap.size + 2) wr wr.drew := (Keep.refl _ _).below ((Below.refl wr.heap.size wr).drew) (Nat.le_refl _)
      clear rIr
      go_wp2
      go_region_held3 (fun w' => Keep (fun g => g = w.heap.size + 2) wr w') (first | with_reducible exact kwm | with_reducible exact kws | with_reducible exact kd | with_reducible exact ((((kws.setCell (p := ⟨w.heap.size + 2, 0, none⟩) (.inl rfl) _).setCell (p := ⟨w.heap.size + 2, 1, none⟩) (.inl rfl) _).setCell (p := ⟨w.heap.size + 2, 2, none⟩) (.inl rfl) _).setCell (p := ⟨w.heap.size + 2, 3, none⟩) (.inl rfl) _).setCell (p := ⟨w.heap.size + 2, 4, none⟩) (.inl rfl) _ | with_reducible exact ((((kwm.setCell (p := ⟨w.heap.size + 2, 0, none⟩) (.inl rfl) _).setCell (p := ⟨w.heap.size + 2, 1, none⟩) (.inl rfl) _).setCell (p := ⟨w.heap.size + 2, 2, none⟩) (.inl rfl) _).setCell (p := ⟨w.heap.size + 2, 3, none⟩) (.inl rfl) _).setCell (p := ⟨w.heap.size + 2, 4, none⟩) (.inl rfl) _) (first | (go_at_call 105; with_reducible refine copied_cps (.slice mo mem.length mc) mem wr.drew (hmk _ kd) (by omega) _ ?_; intro cv wm ownm hbm; obtain ⟨co, cc, rfl⟩ := owns_slice ownm; have kwm := kd.below hbm kd.size; have rRm := rRd.keep hbm; have z0 := rRm.cell (i := 0) rfl; have f0 := rRm.frozen 0; have z1 := rRm.cell (i := 1) rfl; have f1 := rRm.frozen 1; have z2 := rRm.cell (i := 2) rfl; have f2 := rRm.frozen 2; have z3 := rRm.cell (i := 3) rfl; have f3 := rRm.frozen 3; have z4 := rRm.cell (i := 4) rfl; have f4 := rRm.frozen 4) | (go_at_call 105; with_reducible refine copied_cps (.slice so spill.length sc) spill wm (hsk _ kwm) (by omega) _ ?_; intro sv ws owns hbs; obtain ⟨so', sc', rfl⟩ := owns_slice owns; have kws := kwm.below hbs kwm.size; have rRs := rRm.keep hbs; have y0 := rRs.cell (i := 0) rfl; have e0 := rRs.frozen 0; have y1 := rRs.cell (i := 1) rfl; have e1 := rRs.frozen 1; have y2 := rRs.cell (i := 2) rfl; have e2 := rRs.frozen 2; have y3 := rRs.cell (i := 3) rfl; have e3 := rRs.frozen 3; have y4 := rRs.cell (i := 4) rfl; have e4 := rRs.frozen 4) | (go_at_call 105; with_reducible refine copied_cps (.slice so spill.length sc) spill wr.drew (hsk _ kd) (by omega) _ ?_; intro sv ws owns hbs; obtain ⟨so', sc', rfl⟩ := owns_slice owns; have kws := kd.below hbs kd.size; have rRs := rRd.keep hbs; have y0 := rRs.cell (i := 0) rfl; have e0 := rRs.frozen 0; have y1 := rRs.cell (i := 1) rfl; have e1 := rRs.frozen 1; have y2 := rRs.cell (i := 2) rfl; have e2 := rRs.frozen 2; have y3 := rRs.cell (i := 3) rfl; have e3 := rRs.frozen 3; have y4 := rRs.cell (i := 4) rfl; have e4 := rRs.frozen 4) | (go_at_call 105; with_reducible refine copied_cps (.slice mo mem.length mc) mem ws (hmk _ kws) (by omega) _ ?_; intro cv wm ownm hbm; obtain ⟨co, cc, rfl⟩ := owns_slice ownm; have kwm := kws.below hbm kws.size; have rRm := rRs.keep hbm; have z0 := rRm.cell (i := 0) rfl; have f0 := rRm.frozen 0; have z1 := rRm.cell (i := 1) rfl; have f1 := rRm.frozen 1; have z2 := rRm.cell (i := 2) rfl; have f2 := rRm.frozen 2; have z3 := rRm.cell (i := 3) rfl; have f3 := rRm.frozen 3; have z4 := rRm.cell (i := 4) rfl; have f4 := rRm.frozen 4))
      · have hzm := hbm.size
        have hzs := hbs.size
        have hzd : wr.drew.heap.size = wr.heap.size := rfl
        have ownr : ws.ownsRow W.heap.size 3 1 (.slice lo (args.length + j) lc) (args.length + j) (ints (regs0 args j)) := owns_below (owns_below (w := wr.drew) own hbm (Nat.le_refl _)) hbs (Nat.le_refl _)
        have ownc := owns_below ownm hbs (Nat.le_refl _)
        have owns2 := owns
        have apc : ∀ g, (Value.slice lo (args.length + j) lc).ownBlock = some g → (Value.slice co mem.length cc).ownBlock ≠ some g := fun g e e2 => by have q1 := (own.lt g e).2; have q2 := (ownm.lt g e2).1; omega
        have aps : ∀ g, (Value.slice lo (args.length + j) lc).ownBlock = some g → (Value.slice so' spill.length sc').ownBlock ≠ some g := fun g e e2 => by have q1 := (own.lt g e).2; have q2 := (owns.lt g e2).1; omega
        have acs : ∀ g, (Value.slice co mem.length cc).ownBlock = some g → (Value.slice so' spill.length sc').ownBlock ≠ some g := fun g e e2 => by have q1 := (ownm.lt g e).2; have q2 := (owns.lt g e2).1; omega
        have gec : ∀ g, (Value.slice co mem.length cc).ownBlock = some g → W.heap.size ≤ g := fun g e => by have q2 := (ownm.lt g e).1; omega
        have ges : ∀ g, (Value.slice so' spill.length sc').ownBlock = some g → W.heap.size ≤ g := fun g e => by have q2 := (owns.lt g e).1; omega
        have ger : ∀ g, (Value.slice lo (args.length + j) lc).ownBlock = some g → W.heap.size ≤ g := fun g e => (own.lt g e).1
        have hzl := kws.size
        have hB0 : Bunch (fun g => g < w.heap.size) ws (.slice lo (args.length + j) lc) (.slice co mem.length cc) (.slice so' spill.length sc') (.slice none 0 0) ⟨regs0 args j, mem, spill, [], 0⟩ :=
          ⟨by show World.ownsRow _ _ _ _ _ _ _; simp only [regs0_length]; exact owns_base ownr (Nat.zero_le _), owns_base ownc (Nat.zero_le _), owns_base owns2 (Nat.zero_le _), World.ownsRow_nil _ _ _ _, apc, aps, (fun g _ e2 => by simp [Value.ownBlock] at e2), acs, (fun g _ e2 => by simp [Value.ownBlock] at e2), (fun g _ e2 => by simp [Value.ownBlock] at e2),
            (fun g e c => by have := ger g e; omega), (fun g e c => by have := gec g e; omega), (fun g e c => by have := ges g e; omega), (fun g e c => by simp [Value.ownBlock] at e), (fun g c => by omega)⟩
        have hB5 := ((((hB0.far rRs (by decide) 0 (.slice lo (args.length + j) lc)).far (rRs.set 0 _) (by decide) 1 (.slice co mem.length cc)).far ((rRs.set 0 _).set 1 _) (by decide) 2 (.slice so' spill.length sc')).far (((rRs.set 0 _).set 1 _).set 2 _) (by decide) 3 (.slice none 0 0)).far ((((rRs.set 0 _).set 1 _).set 2 _).set 3 _) (by decide) 4 (.int .i64 0)
        have hK5 := ((((kws.setCell (p := ⟨w.heap.size + 2, 0, none⟩) (.inl rfl) (.slice lo (args.length + j) lc)).setCell (p := ⟨w.heap.size + 2, 1, none⟩) (.inl rfl) (.slice co mem.length cc)).setCell (p := ⟨w.heap.size + 2, 2, none⟩) (.inl rfl) (.slice so' spill.length sc')).setCell (p := ⟨w.heap.size + 2, 3, none⟩) (.inl rfl) (.slice none 0 0)).setCell (p := ⟨w.heap.size + 2, 4, none⟩) (.inl rfl) (.int .i64 0)
        have hb5 := (hbW.trans (hbel.mono (by omega))).trans (hK5.toBelow (B := w.heap.size) (by omega) (fun g hg => by omega))
        have HF := hp _ _ _ _ hB5 hb5
        clear hp hB0 hB5 hK5 hb5 own ownm owns ownr ownc owns2 apc aps acs gec ges ger rP rI rR rRr rRd rRm rRs hbm hbs kwm kws kd hbel hbW
        have HF' : Hid _ := HF
        clear HF
        go_wp2
        (try simp only [Exit.inBlock, Exit.then])
        refine bodyPost_ret (v := .agg #[.slice lo (args.length + j) lc, .slice co mem.length cc, .slice so' spill.length sc', .slice none 0 0, .int .i64 0]) ?_ rfl ?_
        · simp [results, Tryz.results67, go_sem, y0, y1, y2, y3, y4]
        · simp only [show w.heap.size + 1 + 1 = w.heap.size + 2 from rfl]
          with_reducible exact HF'.out

end Go.Proofs.YtblhmeidbjigaabGreatDoor

/- What Run answers, pure. -/
set_option linter.unusedSimpArgs false
set_option linter.unusedVariables false
namespace Go.Proofs.YtblhmeidbjigaabGreatDoor
open Go.RowKit

def outZ : OutD := ⟨0, 0, [], []⟩

def fits (p : ProgD) (args mem spill : List Int) : Prop := (args.length : Int) = p.args ∧ (mem.length : Int) = p.data ∧ (spill.length : Int) = p.slots

def begins (p : ProgD) (args mem spill : List Int) : RunD := ⟨regs0 args (p.regs - args.length).toNat, mem, spill, [], 0⟩

/-- The document's answer: the outcome and the error. -/
def RunAns (s : ByteArray) (args mem spill : List Int) (fuel : Int) (o : OutD) (e : Int) : Prop :=
  (e = 1 ∧ o = outZ ∧ ∀ p, progGood p = true → str (progText p) ≠ s) ∨
  ∃ p, progGood p = true ∧ str (progText p) = s ∧
    ((e = 3 ∧ o = outZ ∧ ¬ fits p args mem spill) ∨ (e = 4 ∧ o = outZ ∧ fits p args mem spill ∧ ¬ (0 ≤ fuel ∧ fuel ≤ 300)) ∨
      (e = 0 ∧ fits p args mem spill ∧ (0 ≤ fuel ∧ fuel ≤ 300) ∧ o = runN p.blocks fuel.toNat 0 (begins p args mem spill)))

theorem RunAns.one {s : ByteArray} {args mem spill : List Int} {fuel : Int} {o o' : OutD} {e e' : Int} (h : RunAns s args mem spill fuel o e) (h' : RunAns s args mem spill fuel o' e') : o = o' ∧ e = e' := by
  rcases h with ⟨rfl, rfl, h1⟩ | ⟨p, hg, ht, h1⟩
  · rcases h' with ⟨rfl, rfl, _⟩ | ⟨q, hg, ht, _⟩
    · exact ⟨rfl, rfl⟩
    · exact absurd ht (h1 q hg)
  · rcases h' with ⟨rfl, rfl, h2⟩ | ⟨q, hg', ht', h2⟩
    · exact absurd ht (h2 p hg)
    · obtain rfl : p = q := prog_one hg hg' (ht.trans ht'.symm)
      rcases h1 with ⟨rfl, rfl, a⟩ | ⟨rfl, rfl, a, b⟩ | ⟨rfl, a, b, rfl⟩
      · rcases h2 with ⟨rfl, rfl, _⟩ | ⟨_, _, c, _⟩ | ⟨_, c, _, _⟩
        · exact ⟨rfl, rfl⟩
        · exact absurd c a
        · exact absurd c a
      · rcases h2 with ⟨_, _, c⟩ | ⟨rfl, rfl, _, _⟩ | ⟨_, _, c, _⟩
        · exact absurd a c
        · exact ⟨rfl, rfl⟩
        · exact absurd c b
      · rcases h2 with ⟨_, _, c⟩ | ⟨_, _, _, c⟩ | ⟨rfl, _, _, rfl⟩
        · exact absurd a c
        · exact absurd b c
        · exact ⟨rfl, rfl⟩

theorem owns_rebase {w : World} {B : Nat} {e : TypeId} {sz : Nat} {v : Value} {n : Nat} {xs : List Value} (h : w.ownsRow 0 e sz v n xs) (hB : ∀ g, v.ownBlock = some g → B ≤ g) : w.ownsRow B e sz v n xs := by
  refine ⟨h.1, ?_⟩
  rcases h.2 with h2 | ⟨g, cap, cur, rfl, hg, r⟩
  · exact .inl h2
  · exact .inr ⟨g, cap, cur, rfl, hB g rfl, r⟩

/-- What comes out of Run. -/
structure RunOut (w w' : World) (o : OutD) (mv lv : Value) : Prop where
  mem : w'.ownsRow w.heap.size 3 1 mv o.mem.length (ints o.mem)
  leak : w'.ownsRow w.heap.size 3 1 lv o.leak.length (ints o.leak)
  apart : ∀ g, mv.ownBlock = some g → lv.ownBlock ≠ some g
  below : Below w.heap.size w w'

theorem out4_below {B : Nat} {w w' : World} (h : Below B w w') {R : Nat} (hR : B ≤ R) (k r : Int) (m l : Value) : Below B w (out4 w' R k r m l) :=
  (((h.setCell hR _).setCell hR _).setCell hR _).setCell hR _

theorem runOut_nil {w w' : World} (h : Below w.heap.size w w') : RunOut w w' outZ (.slice none 0 0) (.slice none 0 0) :=
  ⟨World.ownsRow_nil _ _ _ _, World.ownsRow_nil _ _ _ _, fun g e => by simp [Value.ownBlock] at e, h⟩

theorem begins_sized {p : ProgD} {args mem spill : List Int} (hg : progGood p = true) (h : fits p args mem spill) : Sized (begins p args mem spill) p.regs p.data p.slots := by
  simp only [progGood, Bool.and_eq_true, decide_eq_true_eq] at hg
  obtain ⟨h1, h2, h3⟩ := h
  refine ⟨?_, h2, h3⟩
  show ((regs0 args (p.regs - args.length).toNat).length : Int) = p.regs
  rw [regs0_length]
  omega

end Go.Proofs.YtblhmeidbjigaabGreatDoor

/- Twins end alike: pure. -/
set_option linter.unusedSimpArgs false
set_option linter.unusedVariables false
noncomputable section
namespace Go.Proofs.YtblhmeidbjigaabGreatDoor
open Go.RowKit Classical

/-- The end of a block; a Branch whose register's term is a number counts as a Jump. -/
def effT (e : EndD) (t : TD) : EndD := if e.kind = 2 then (match t.isNum with | some n => ⟨1, 0, if n ≠ 0 then e.x else e.y, 0⟩ | none => e) else e

section
variable (p q : ProgD) (h : List PingD) (b : Nat)
def srcOps : List OpD := bops p.blocks (hsrc h b).toNat
def srcT (i : Int) : TD := behindT p.regs 0 (plainNames p.regs 0) (srcOps p h b) (srcOps p h b).length i
def tgtT (i : Int) : TD := behindT q.regs q.slots (namesOf (hpairs h b) (q.regs + q.slots).toNat) (bops q.blocks b) (bops q.blocks b).length i
def srcEnd : EndD := effT (bfin p.blocks (hsrc h b).toNat) (srcT p h b (bfin p.blocks (hsrc h b).toNat).r)
def tgtEnd : EndD := effT (bfin q.blocks b) (tgtT q h b (bfin q.blocks b).r)

/-- An edge: where the source goes on with c and the target with d. -/
def edgeOk (c d : Int) : Prop := hsrc h d.toNat = c ∧ ∀ x ∈ hpairs h d.toNat, srcT p h b x.reg = tgtT q h b x.place

/-- P12 (4), of block b of the target. -/
structure BlockOk : Prop where
  src : 0 ≤ hsrc h b ∧ hsrc h b < p.blocks.length
  pairs : ∀ x ∈ hpairs h b, 0 ≤ x.reg ∧ x.reg < p.regs ∧ 0 ≤ x.place ∧ x.place < q.regs + q.slots
  marks : marksD p.regs 0 p.data (plainNames p.regs 0) (srcOps p h b) (srcOps p h b).length = marksD q.regs q.slots q.data (namesOf (hpairs h b) (q.regs + q.slots).toNat) (bops q.blocks b) (bops q.blocks b).length
  cells : srcT p h b p.regs = tgtT q h b (q.regs + q.slots)
  kind : (srcEnd p h b).kind = (tgtEnd q h b).kind
  term : ((srcEnd p h b).kind = 2 ∨ (srcEnd p h b).kind = 3) → srcT p h b (srcEnd p h b).r = tgtT q h b (tgtEnd q h b).r
  edgeX : (srcEnd p h b).kind ≠ 3 → edgeOk p q h b (srcEnd p h b).x (tgtEnd q h b).x
  edgeY : (srcEnd p h b).kind = 2 → edgeOk p q h b (srcEnd p h b).y (tgtEnd q h b).y
end

end Go.Proofs.YtblhmeidbjigaabGreatDoor

/- Runs with more fuel, pure. -/
set_option linter.unusedSimpArgs false
set_option linter.unusedVariables false
namespace Go.Proofs.YtblhmeidbjigaabGreatDoor
open Go.RowKit

theorem step_trap {s : RunD} (o : OpD) (h : s.trap = 0) : (stepOp s o).trap = 0 ∨ (stepOp s o).trap = 2 ∨ (stepOp s o).trap = 3 := by
  unfold stepOp
  repeat' split
  all_goals simp [RunD.reg, RunD.out, RunD.die, RunD.cell, RunD.slot, h]

theorem doOps_kinds (l : List OpD) {s : RunD} (h : s.trap = 0) : (doOps l s).trap = 0 ∨ (doOps l s).trap = 2 ∨ (doOps l s).trap = 3 := by
  induction l generalizing s with
  | nil => exact .inl h
  | cons o r ih =>
    simp only [doOps, h, if_true]
    rcases step_trap o h with q | q | q
    · exact ih q
    · rw [doOps_trap r (by omega)]; exact .inr (.inl q)
    · rw [doOps_trap r (by omega)]; exact .inr (.inr q)

end Go.Proofs.YtblhmeidbjigaabGreatDoor

/- P12 in the document's words: pure. -/
set_option linter.unusedSimpArgs false
set_option linter.unusedVariables false
noncomputable section
namespace Go.Proofs.YtblhmeidbjigaabGreatDoor
open Go.RowKit Classical

/-- P12 (2): is the hint one for these programs? -/
def suitsD (p q : ProgD) (h : List PingD) : Prop :=
  h.length = q.blocks.length ∧ ∀ b, b < h.length → hsrc h b < p.blocks.length ∧ ∀ x ∈ hpairs h b, x.reg < p.regs ∧ x.place < q.regs + q.slots

/-- P12 (3). -/
def startsD (q : ProgD) (h : List PingD) : Prop :=
  hsrc h 0 = 0 ∧ ∀ x ∈ hpairs h 0, x.place < q.regs ∧ (x.reg = x.place ∨ (q.args ≤ x.reg ∧ q.args ≤ x.place))

section
variable (p q : ProgD) (h : List PingD) (b : Nat)
def pairsOkD (l : List PairD) : Prop := ∀ x ∈ l, srcT p h b x.reg = tgtT q h b x.place


/-- P12 (4): what is wrong at block b of the target; 0: nothing. -/
def wrongD : Int :=
  if bigT p.regs 0 (plainNames p.regs 0) (srcOps p h b) = true ∨ bigT q.regs q.slots (namesOf (hpairs h b) (q.regs + q.slots).toNat) (bops q.blocks b) = true then 5
  else if marksD p.regs 0 p.data (plainNames p.regs 0) (srcOps p h b) (srcOps p h b).length ≠ marksD q.regs q.slots q.data (namesOf (hpairs h b) (q.regs + q.slots).toNat) (bops q.blocks b) (bops q.blocks b).length then 10
  else if srcT p h b p.regs ≠ tgtT q h b (q.regs + q.slots) then 11
  else if (srcEnd p h b).kind ≠ (tgtEnd q h b).kind then 12
  else if ((srcEnd p h b).kind = 2 ∨ (srcEnd p h b).kind = 3) ∧ srcT p h b (srcEnd p h b).r ≠ tgtT q h b (tgtEnd q h b).r then 12
  else if (srcEnd p h b).kind = 3 then 0
  else if hsrc h (tgtEnd q h b).x.toNat ≠ (srcEnd p h b).x then 13
  else if (srcEnd p h b).kind = 2 ∧ hsrc h (tgtEnd q h b).y.toNat ≠ (srcEnd p h b).y then 13
  else if ¬ pairsOkD p q h b (hpairs h (tgtEnd q h b).x.toNat) then 14
  else if (srcEnd p h b).kind = 2 ∧ ¬ pairsOkD p q h b (hpairs h (tgtEnd q h b).y.toNat) then 14
  else 0
end

/-- P12: what Validate answers of texts that are read as p, q and h. -/
def JudgedD (p q : ProgD) (h : List PingD) (e n : Int) : Prop :=
  (e = 9 ∧ n = 0 ∧ ¬ startsD q h) ∨ (startsD q h ∧
    ((∃ b : Nat, b < q.blocks.length ∧ n = b ∧ e = wrongD p q h b ∧ e ≠ 0 ∧ ∀ c, c < b → wrongD p q h c = 0) ∨ (e = 0 ∧ n = 0 ∧ ∀ b, b < q.blocks.length → wrongD p q h b = 0)))

/-- P12: what Validate answers. -/
def ValAns (s t g : ByteArray) (e n : Int) : Prop :=
  (e = 6 ∧ n = 0 ∧ ∀ p, progGood p = true → str (progText p) = s → p.slots ≠ 0) ∨
  ∃ p, progGood p = true ∧ str (progText p) = s ∧ p.slots = 0 ∧
    ((e = 7 ∧ n = 0 ∧ ∀ q, progGood q = true → str (progText q) ≠ t) ∨
      ∃ q, progGood q = true ∧ str (progText q) = t ∧
        ((e = 8 ∧ n = 0 ∧ ¬ (p.args = q.args ∧ p.data = q.data)) ∨ ((p.args = q.args ∧ p.data = q.data) ∧
          ((e = 2 ∧ n = 0 ∧ ∀ h, goodHint h = true → str (hintText h) = g → ¬ suitsD p q h) ∨
            ∃ h, goodHint h = true ∧ str (hintText h) = g ∧ suitsD p q h ∧ JudgedD p q h e n))))

theorem JudgedD.one {p q : ProgD} {h : List PingD} {e n e' n' : Int} (a : JudgedD p q h e n) (b : JudgedD p q h e' n') : e = e' ∧ n = n' := by
  rcases a with ⟨rfl, rfl, a1⟩ | ⟨a0, a1⟩
  · rcases b with ⟨rfl, rfl, _⟩ | ⟨b0, _⟩
    · exact ⟨rfl, rfl⟩
    · exact absurd b0 a1
  · rcases b with ⟨_, _, b1⟩ | ⟨_, b1⟩
    · exact absurd a0 b1
    · rcases a1 with ⟨x, x1, rfl, rfl, x2, x3⟩ | ⟨rfl, rfl, x1⟩
      · rcases b1 with ⟨y, y1, rfl, rfl, y2, y3⟩ | ⟨_, _, y1⟩
        · have : x = y := by
            rcases Nat.lt_trichotomy x y with c | c | c
            · exact absurd (y3 x c) x2
            · exact c
            · exact absurd (x3 y c) y2
          subst this
          exact ⟨rfl, rfl⟩
        · exact absurd (y1 x x1) x2
      · rcases b1 with ⟨y, y1, rfl, rfl, y2, y3⟩ | ⟨rfl, rfl, y1⟩
        · exact absurd (x1 y y1) y2
        · exact ⟨rfl, rfl⟩

theorem ValAns.one {s t g : ByteArray} {e n e' n' : Int} (a : ValAns s t g e n) (b : ValAns s t g e' n') : e = e' ∧ n = n' := by
  rcases a with ⟨rfl, rfl, a1⟩ | ⟨p, pg, pt, p0, a1⟩
  · rcases b with ⟨rfl, rfl, _⟩ | ⟨p, pg, pt, p0, _⟩
    · exact ⟨rfl, rfl⟩
    · exact absurd p0 (a1 p pg pt)
  rcases b with ⟨_, _, b1⟩ | ⟨p', pg', pt', p0', b1⟩
  · exact absurd p0 (b1 p pg pt)
  obtain rfl : p = p' := prog_one pg pg' (pt.trans pt'.symm)
  rcases a1 with ⟨rfl, rfl, a1⟩ | ⟨q, qg, qt, a1⟩
  · rcases b1 with ⟨rfl, rfl, _⟩ | ⟨q, qg, qt, _⟩
    · exact ⟨rfl, rfl⟩
    · exact absurd qt (a1 q qg)
  rcases b1 with ⟨_, _, b1⟩ | ⟨q', qg', qt', b1⟩
  · exact absurd qt (b1 q qg)
  obtain rfl : q = q' := prog_one qg qg' (qt.trans qt'.symm)
  rcases a1 with ⟨rfl, rfl, a1⟩ | ⟨a0, a1⟩
  · rcases b1 with ⟨rfl, rfl, _⟩ | ⟨b0, _⟩
    · exact ⟨rfl, rfl⟩
    · exact absurd b0 a1
  rcases b1 with ⟨_, _, b1⟩ | ⟨_, b1⟩
  · exact absurd a0 b1
  rcases a1 with ⟨rfl, rfl, a1⟩ | ⟨h, hg, ht, hs, a1⟩
  · rcases b1 with ⟨rfl, rfl, _⟩ | ⟨h, hg, ht, hs, _⟩
    · exact ⟨rfl, rfl⟩
    · exact absurd hs (a1 h hg ht)
  rcases b1 with ⟨_, _, b1⟩ | ⟨h', hg', ht', hs', b1⟩
  · exact absurd hs (b1 h hg ht)
  obtain rfl : h = h' := hint_one hg hg' (ht.trans ht'.symm)
  exact a1.one b1

theorem goodPairs_all {l : List PairD} {last : Int} (h : goodPairs last l = true) : ∀ x ∈ l, 0 ≤ x.reg ∧ 0 ≤ x.place := by
  induction l generalizing last with
  | nil => intro x hx; cases hx
  | cons y l ih =>
    simp only [goodPairs, Bool.and_eq_true, below, decide_eq_true_eq] at h
    intro x hx
    rcases List.mem_cons.1 hx with rfl | hx
    · omega
    · exact ih h.2 x hx

theorem goodHint_at {h : List PingD} (g : goodHint h = true) {b : Nat} (hb : b < h.length) : 0 ≤ hsrc h b ∧ ∀ x ∈ hpairs h b, 0 ≤ x.reg ∧ 0 ≤ x.place := by
  simp only [goodHint, goodPings, Bool.and_eq_true, decide_eq_true_eq, List.all_eq_true] at g
  have hm : h.getD b hz ∈ h := by simp [List.getD, hb]
  have := g.2 _ hm
  simp only [goodPing, Bool.and_eq_true, below, decide_eq_true_eq] at this
  exact ⟨this.1.1.1, goodPairs_all this.2⟩

/-- Where nothing is wrong, P12 (4) holds. -/
theorem blockOk_of {p q : ProgD} {h : List PingD} (hg : goodHint h = true) (hs : suitsD p q h) {b : Nat} (hb : b < q.blocks.length) (hw : wrongD p q h b = 0) : BlockOk p q h b := by
  have hbl : b < h.length := by rw [hs.1]; exact hb
  obtain ⟨s1, s2⟩ := hs.2 b hbl
  obtain ⟨g1, g2⟩ := goodHint_at hg hbl
  unfold wrongD at hw
  split at hw; · omega
  split at hw; · omega
  rename_i hm
  split at hw; · omega
  rename_i hc
  split at hw; · omega
  rename_i hk
  split at hw; · omega
  rename_i ht
  have hm := Decidable.not_not.1 hm
  have hc := Decidable.not_not.1 hc
  have hk := Decidable.not_not.1 hk
  have ht : ((srcEnd p h b).kind = 2 ∨ (srcEnd p h b).kind = 3) → srcT p h b (srcEnd p h b).r = tgtT q h b (tgtEnd q h b).r := fun a => Decidable.not_not.1 fun c => ht ⟨a, c⟩
  have hp : ∀ x ∈ hpairs h b, 0 ≤ x.reg ∧ x.reg < p.regs ∧ 0 ≤ x.place ∧ x.place < q.regs + q.slots := fun x hx => ⟨(g2 x hx).1, (s2 x hx).1, (g2 x hx).2, (s2 x hx).2⟩
  split at hw
  · rename_i h3
    exact ⟨⟨g1, s1⟩, hp, hm, hc, hk, ht, fun c => absurd h3 c, fun c => by omega⟩
  split at hw; · omega
  rename_i x1
  split at hw; · omega
  rename_i x2
  split at hw; · omega
  rename_i x3
  split at hw; · omega
  rename_i x4
  have x1 := Decidable.not_not.1 x1
  have x3 := Decidable.not_not.1 x3
  exact ⟨⟨g1, s1⟩, hp, hm, hc, hk, ht, fun _ => ⟨x1, x3⟩, fun c => ⟨Decidable.not_not.1 fun d => x2 ⟨c, d⟩, Decidable.not_not.1 fun d => x4 ⟨c, d⟩⟩⟩

/-- What is taken for twins. -/
theorem ValAns.ok {s t g : ByteArray} {n : Int} (a : ValAns s t g 0 n) : ∃ p q h, progGood p = true ∧ str (progText p) = s ∧ progGood q = true ∧ str (progText q) = t ∧ goodHint h = true ∧ str (hintText h) = g ∧ p.slots = 0 ∧ p.args = q.args ∧ p.data = q.data ∧
    (∀ b, b < q.blocks.length → BlockOk p q h b) ∧ hsrc h 0 = 0 ∧ (∀ x ∈ hpairs h 0, x.place < q.regs ∧ (x.reg = x.place ∨ (p.args ≤ x.reg ∧ p.args ≤ x.place))) := by
  rcases a with ⟨c, _⟩ | ⟨p, pg, pt, p0, a⟩
  · omega
  rcases a with ⟨c, _⟩ | ⟨q, qg, qt, a⟩
  · omega
  rcases a with ⟨c, _⟩ | ⟨⟨e1, e2⟩, a⟩
  · omega
  rcases a with ⟨c, _⟩ | ⟨h, hg, ht, hs, a⟩
  · omega
  rcases a with ⟨c, _⟩ | ⟨st, a⟩
  · omega
  rcases a with ⟨b, _, _, c, d, _⟩ | ⟨_, _, a⟩
  · omega
  exact ⟨p, q, h, pg, pt, qg, qt, hg, ht, p0, e1, e2, fun b hb => blockOk_of hg hs hb (a b hb), st.1, by rw [e1]; exact st.2⟩

end Go.Proofs.YtblhmeidbjigaabGreatDoor

/- Terms and marks of a list of operations, step by step; pure. -/
set_option linter.unusedSimpArgs false
set_option linter.unusedVariables false
noncomputable section
namespace Go.Proofs.YtblhmeidbjigaabGreatDoor
open Go.RowKit Classical

/-- What an operation makes. -/
def givesT (regs slots : Int) (was : Int → TD) (o : OpD) : TD :=
  if o.kind = 1 then tnum (256 * o.b + o.c - 32768)
  else if o.kind = 2 ∨ o.kind = 14 then was o.b
  else if o.kind = 15 then was (regs + o.b)
  else if o.kind = 12 then readT (was (regs + slots)) (was o.b)
  else if o.kind = 13 then writtenT (was (regs + slots)) (was o.a) (was o.b)
  else madeT o.kind (was o.b) (was o.c)

/-- Behind an operation. -/
def stepT (regs slots : Int) (was : Int → TD) (o : OpD) : Int → TD := fun place => if writesT regs slots o ≠ place then was place else givesT regs slots was o

def foldT (regs slots : Int) : List OpD → (Int → TD) → (Int → TD)
  | [], was => was
  | o :: l, was => foldT regs slots l (stepT regs slots was o)

/-- The mark of an operation. -/
def opMark (was : Int → TD) (o : OpD) : Option MD :=
  if o.kind = 11 then some (.div (was o.b) (was o.c)) else if o.kind = 12 then some (.cell (was o.b)) else if o.kind = 13 then some (.cell (was o.a)) else none

def addM (data : Int) (l : List MD) : Option MD → List MD
  | some m => if idle data m = true ∨ m ∈ l then l else l ++ [m]
  | none => l

theorem foldT_append (regs slots : Int) (l m : List OpD) (was : Int → TD) : foldT regs slots (l ++ m) was = foldT regs slots m (foldT regs slots l was) := by
  induction l generalizing was with
  | nil => rfl
  | cons o l ih => exact ih _

theorem behind_succ (regs slots : Int) (names : List Int) (ops : List OpD) (k : Nat) : behindT regs slots names ops (k + 1) = stepT regs slots (behindT regs slots names ops k) (ops.getD k oz) := by
  funext place
  simp only [behindT, stepT, givesT]

theorem take_succ' {ops : List OpD} {k : Nat} (h : k < ops.length) : ops.take (k + 1) = ops.take k ++ [ops.getD k oz] := by
  rw [List.take_add_one, List.getElem?_eq_getElem h]
  simp [List.getD, h]

theorem behind_fold (regs slots : Int) (names : List Int) (ops : List OpD) : ∀ k, k ≤ ops.length → behindT regs slots names ops k = foldT regs slots (ops.take k) (firstT names) := by
  intro k
  induction k with
  | zero => intro _; funext p; simp [behindT, foldT]
  | succ k ih =>
    intro hk
    rw [behind_succ, ih (by omega), take_succ' (by omega), foldT_append]
    rfl

end Go.Proofs.YtblhmeidbjigaabGreatDoor

/- Big blocks, step by step; pure. -/
set_option linter.unusedSimpArgs false
set_option linter.unusedVariables false
noncomputable section
namespace Go.Proofs.YtblhmeidbjigaabGreatDoor
open Go.RowKit Classical

def bigOp (regs slots : Int) (was : Int → TD) (o : OpD) : Bool := decide (3 ≤ o.kind ∧ o.kind ≤ 13 ∧ 4095 < (givesT regs slots was o).size)

def bigF (regs slots : Int) : List OpD → (Int → TD) → Bool
  | [], _ => false
  | o :: l, was => bigOp regs slots was o || bigF regs slots l (stepT regs slots was o)

theorem bigF_append (regs slots : Int) (l m : List OpD) (was : Int → TD) : bigF regs slots (l ++ m) was = (bigF regs slots l was || bigF regs slots m (foldT regs slots l was)) := by
  induction l generalizing was with
  | nil => simp [bigF, foldT]
  | cons o l ih => simp only [List.cons_append, bigF, foldT, ih, Bool.or_assoc]

theorem step_writes (regs slots : Int) (was : Int → TD) (o : OpD) : stepT regs slots was o (writesT regs slots o) = givesT regs slots was o := by
  unfold stepT; simp

theorem big_fold (regs slots : Int) (names : List Int) (ops : List OpD) : ∀ k, k ≤ ops.length →
    ((List.range k).any fun k => decide (3 ≤ okind ops k ∧ okind ops k ≤ 13 ∧ 4095 < (behindT regs slots names ops (k + 1) (writesT regs slots (ops.getD k oz))).size)) = bigF regs slots (ops.take k) (firstT names) := by
  intro k
  induction k with
  | zero => intro _; simp [bigF]
  | succ k ih =>
    intro hk
    rw [List.range_succ, List.any_append, ih (by omega), take_succ' (by omega), bigF_append, ← behind_fold _ _ _ _ _ (by omega)]
    simp only [List.any_cons, List.any_nil, Bool.or_false, bigF]
    rw [behind_succ, step_writes]
    rfl

theorem big_all (regs slots : Int) (names : List Int) (ops : List OpD) : bigT regs slots names ops = bigF regs slots ops (firstT names) := by
  have := big_fold regs slots names ops ops.length (Nat.le_refl _)
  rw [List.take_length] at this
  exact this

end Go.Proofs.YtblhmeidbjigaabGreatDoor

/- What Term and Marks answer is told by the document alone; pure. -/
set_option linter.unusedSimpArgs false
set_option linter.unusedVariables false
noncomputable section
namespace Go.Proofs.YtblhmeidbjigaabGreatDoor
open Go.RowKit Classical

theorem TermAns.one {s : ByteArray} {block place : Int} {t t' : List UInt8} {e e' : Int} (a : TermAns s block place t e) (b : TermAns s block place t' e') : t = t' ∧ e = e' := by
  rcases a with ⟨rfl, rfl, a1⟩ | ⟨p, pg, pt, a1⟩
  · rcases b with ⟨rfl, rfl, _⟩ | ⟨p, pg, pt, _⟩
    · exact ⟨rfl, rfl⟩
    · exact absurd pt (a1 p pg)
  rcases b with ⟨_, _, b1⟩ | ⟨p', pg', pt', b1⟩
  · exact absurd pt (b1 p pg)
  obtain rfl : p = p' := prog_one pg pg' (pt.trans pt'.symm)
  rcases a1 with ⟨rfl, rfl, a1⟩ | ⟨a0, a1⟩
  · rcases b1 with ⟨rfl, rfl, _⟩ | ⟨b0, _⟩
    · exact ⟨rfl, rfl⟩
    · exact absurd b0 a1
  rcases b1 with ⟨_, _, b1⟩ | ⟨_, b1⟩
  · exact absurd a0 b1
  rcases a1 with ⟨rfl, rfl, a1⟩ | ⟨rfl, a1, rfl⟩
  · rcases b1 with ⟨rfl, rfl, _⟩ | ⟨_, b1, _⟩
    · exact ⟨rfl, rfl⟩
    · rw [a1] at b1; cases b1
  · rcases b1 with ⟨_, _, b1⟩ | ⟨rfl, _, rfl⟩
    · rw [a1] at b1; cases b1
    · exact ⟨rfl, rfl⟩

/-- P11: what Marks answers. -/
def MarksAns (s : ByteArray) (block : Int) (l : List (List UInt8)) (e : Int) : Prop :=
  (e = 1 ∧ l = [] ∧ ∀ p, progGood p = true → str (progText p) ≠ s) ∨
  ∃ p, progGood p = true ∧ str (progText p) = s ∧
    ((e = 4 ∧ l = [] ∧ ¬ (0 ≤ block ∧ block < p.blocks.length)) ∨
      ((0 ≤ block ∧ block < p.blocks.length) ∧
        ((e = 5 ∧ l = [] ∧ bigT p.regs p.slots (plainNames p.regs p.slots) (bops p.blocks block.toNat) = true) ∨
          (e = 0 ∧ bigT p.regs p.slots (plainNames p.regs p.slots) (bops p.blocks block.toNat) = false ∧
            l = marksT p.regs p.slots p.data (plainNames p.regs p.slots) (bops p.blocks block.toNat) (bops p.blocks block.toNat).length))))

theorem MarksAns.one {s : ByteArray} {block : Int} {l l' : List (List UInt8)} {e e' : Int} (a : MarksAns s block l e) (b : MarksAns s block l' e') : l = l' ∧ e = e' := by
  rcases a with ⟨rfl, rfl, a1⟩ | ⟨p, pg, pt, a1⟩
  · rcases b with ⟨rfl, rfl, _⟩ | ⟨p, pg, pt, _⟩
    · exact ⟨rfl, rfl⟩
    · exact absurd pt (a1 p pg)
  rcases b with ⟨_, _, b1⟩ | ⟨p', pg', pt', b1⟩
  · exact absurd pt (b1 p pg)
  obtain rfl : p = p' := prog_one pg pg' (pt.trans pt'.symm)
  rcases a1 with ⟨rfl, rfl, a1⟩ | ⟨a0, a1⟩
  · rcases b1 with ⟨rfl, rfl, _⟩ | ⟨b0, _⟩
    · exact ⟨rfl, rfl⟩
    · exact absurd b0 a1
  rcases b1 with ⟨_, _, b1⟩ | ⟨_, b1⟩
  · exact absurd a0 b1
  rcases a1 with ⟨rfl, rfl, a1⟩ | ⟨rfl, a1, rfl⟩
  · rcases b1 with ⟨rfl, rfl, _⟩ | ⟨_, b1, _⟩
    · exact ⟨rfl, rfl⟩
    · rw [a1] at b1; cases b1
  · rcases b1 with ⟨_, _, b1⟩ | ⟨rfl, _, rfl⟩
    · rw [a1] at b1; cases b1
    · exact ⟨rfl, rfl⟩

end Go.Proofs.YtblhmeidbjigaabGreatDoor

/- The reference's marks: in, Marked, Marks. -/
set_option linter.unusedSimpArgs false
set_option linter.unusedVariables false
namespace Go.Proofs.YtblhmeidbjigaabGreatDoor
open Go.RowKit

/-- Texts as cells. -/
def texts (l : List (List UInt8)) : List Value := l.map fun x => .string (str x)

theorem texts_length (l : List (List UInt8)) : (texts l).length = l.length := by simp [texts]
theorem texts_snoc (l : List (List UInt8)) (s : List UInt8) : texts (l ++ [s]) = texts l ++ [.string (str s)] := by simp [texts]

theorem Tryz.infoStr : (Tryz.prog.info? 9).map (fun i => (i.zero, i.size, i.bytes)) = some (some (.string ⟨#[]⟩), 1, 16) := by kernel_rfl

/-- A list of texts that is read. -/
def RdTexts (w : World) (v : Value) (l : List (List UInt8)) : Prop :=
  ∃ ao cap, v = .slice ao l.length cap ∧ l.length ≤ 9223372036854775807 ∧ ∀ i, i < l.length → ∃ b off, ao = some ⟨b, off, none⟩ ∧ w.cell? ⟨b, off + i, none⟩ = some (.string (str (l.getD i [])))

theorem RdTexts.keep {w w' : World} {v : Value} {l : List (List UInt8)} (h : RdTexts w v l) (hb : Below w.heap.size w w') : RdTexts w' v l := by
  obtain ⟨ao, cap, rfl, hl, hc⟩ := h
  exact ⟨ao, cap, rfl, hl, fun i hi => let ⟨b, off, e, h1⟩ := hc i hi; ⟨b, off, e, cell_keep hb h1⟩⟩

theorem texts_rd {w : World} {B : Nat} {v : Value} {l : List (List UInt8)} (h : w.ownsRow B 9 1 v l.length (texts l)) : RdTexts w v l := by
  obtain ⟨ao, cap, rfl⟩ := owns_slice h
  refine ⟨ao, cap, rfl, owns_le h, fun i hi => ?_⟩
  obtain ⟨b, rfl, _, hb, hc⟩ := owns_cell h rfl (i := i) (by rw [texts_length]; exact hi)
  refine ⟨b, 0, rfl, ?_⟩
  rw [Nat.zero_add, hc]
  simp [texts, List.getD, hi]

theorem str_eq (x y : List UInt8) : ((str x).toList == (str y).toList) = true ↔ x = y := by simp [str]
theorem str_ne {x y : List UInt8} (h : x ≠ y) : ((str x).toList == (str y).toList) = false := by simp [str, h]

set_option maxRecDepth 100000 in
set_option maxHeartbeats 1000000 in
theorem rIn_any (v : Value) (l : List (List UInt8)) (s : List UInt8) (w : World) (hr : RdTexts w v l) :
    Calls Tryz.prog 154 #[v, .string (str s)] w fun e w' => e = .returned (.bool (decide (s ∈ l))) ∧ w = w' := by
  obtain ⟨ao, cap, rfl, hl, hc⟩ := hr
  go_enter Tryz.func154, Tryz.ntmps154
  go_wp2
  go_loopw [5] (fun i wr => wr = w ∧ ∃ (k : Nat), k ≤ l.length ∧ i = .int .i64 k ∧ Hid (∀ j, j < k → l.getD j [] ≠ s))
    (fun i _ => l.length - (intOf i).toNat)
  case atStart => exact ⟨rfl, 0, Nat.zero_le _, rfl, fun j hj => by omega⟩
  case round =>
    obtain ⟨rfl, k, hk, rfl, hno⟩ := hrel
    by_cases hlt : k < l.length
    · obtain ⟨b, off, rfl, h1⟩ := hc k hlt
      have hki : (0 : Int) ≤ (k : Int) := by omega
      have hkj : (k : Int) < (l.length : Int) := by omega
      by_cases he : l.getD k [] = s
      · have h2 := (str_eq (l.getD k []) s).2 he
        have HM : Hid (decide (s ∈ l) = true) := by show _ = _; rw [decide_eq_true_eq, ← he]; exact getD_mem' hlt
        have HE := Lib.hid he
        clear hno he
        generalize l.getD k [] = x at *
        go_wp2
        (try simp only [Exit.inBlock, Exit.then])
        refine bodyPost_ret (v := .bool true) ?_ rfl ?_
        · simp [results, Tryz.results154, go_sem]
        · exact ⟨by rw [HM.out], rfl⟩
      · have h2 := str_ne he
        have hno2 : Hid (∀ j, j < k + 1 → l.getD j [] ≠ s) := fun j hj => by
          by_cases e : j = k
          · subst e; exact he
          · exact hno.out j (by omega)
        clear hno he
        generalize l.getD k [] = x at *
        go_wp2
        go_roundw
        case rel => exact ⟨by first | rfl | trivial, k + 1, by omega, by go_num, hno2⟩
        case measure => simp [intOf]; omega
    · obtain rfl : k = l.length := by omega
      have HM : Hid (decide (s ∈ l) = false) := by
        show _ = _
        rw [decide_eq_false_iff_not]
        intro hm
        obtain ⟨j, hj, e⟩ := List.getElem_of_mem hm
        exact hno.out j hj (by simp [List.getD, hj, e])
      clear hno hc
      go_wp2
      go_ret
      exact ⟨by rw [HM.out]; rfl, rfl⟩

theorem tx_new (w : World) (x : Value) (t : TypeId) : ∀ j u, [x][j]? = some u → (w.alloc (.cells #[x] t)).cell? ((⟨w.heap.size, 0, none⟩ : Addr).add j) = some u := by
  intro j u hj
  match j, hj with
  | 0, hj => simp at hj; subst hj; simp [Addr.add]

theorem tx_one (x : ByteArray) : ∀ u ∈ [Value.string x], u.oneCell' = true := by
  intro u hu; simp at hu; subst hu; rfl

theorem marksT_length (regs slots data : Int) (names : List Int) (ops : List OpD) : ∀ k, (marksT regs slots data names ops k).length ≤ k
  | 0 => by simp [marksT]
  | k + 1 => by
    have := marksT_length regs slots data names ops k
    simp only [marksT]
    split
    · simp; omega
    · omega

theorem marks_more {regs slots data : Int} {names : List Int} {ops : List OpD} {k : Nat} (h : markT regs slots data names ops k ≠ [] ∧ markT regs slots data names ops k ∉ marksT regs slots data names ops k) : marksT regs slots data names ops (k + 1) = marksT regs slots data names ops k ++ [markT regs slots data names ops k] := by
  simp only [marksT]; rw [if_pos h]
theorem marks_same {regs slots data : Int} {names : List Int} {ops : List OpD} {k : Nat} (h : ¬ (markT regs slots data names ops k ≠ [] ∧ markT regs slots data names ops k ∉ marksT regs slots data names ops k)) : marksT regs slots data names ops (k + 1) = marksT regs slots data names ops k := by
  simp only [marksT]; rw [if_neg h]

set_option maxRecDepth 100000 in
set_option maxHeartbeats 4000000 in
theorem rMarked_cps (p : ProgD) (pv nv : Value) (b : Nat) (names : List Int) (hg : progGood p = true) (hb : b < p.blocks.length) (hnm : ∀ x ∈ names, x ≤ 1000) (w : World) (hv : RdView w p pv nv names) (Post : Ending → World → Prop)
    (hp : ∀ v w', w'.ownsRow w.heap.size 9 1 v (marksT p.regs p.slots p.data names (bops p.blocks b) (bops p.blocks b).length).length (texts (marksT p.regs p.slots p.data names (bops p.blocks b) (bops p.blocks b).length)) → Below w.heap.size w w' → Post (.returned v) w') :
    Calls Tryz.prog 120 #[viewV p pv b nv] w Post := by
  obtain ⟨i0, ii, iz0, iz1, iz2⟩ := info_parts Tryz.infoStr
  obtain ⟨h12, hops⟩ := good_block hg hb
  have hb0 : Below w.heap.size w (w.alloc (.cells #[.int .i64 p.args, .int .i64 p.regs, .int .i64 p.data, .int .i64 p.slots, pv, .int .i64 b, nv] 164)) := (Below.refl _ _).alloc (Nat.le_refl _) _
  have r : Row (w.alloc (.cells #[.int .i64 p.args, .int .i64 p.regs, .int .i64 p.data, .int .i64 p.slots, pv, .int .i64 b, nv] 164)) w.heap.size 164 (viewC p pv b nv) := heap_alloc_new w _
  have hz0 : w.heap.size + 1 ≤ (w.alloc (.cells #[.int .i64 p.args, .int .i64 p.regs, .int .i64 p.data, .int .i64 p.slots, pv, .int .i64 b, nv] 164)).heap.size := by simp
  have qm := fun k hk W hW => rMark_any p pv nv b names hg hb hnm k hk W hW
  obtain ⟨ao, cap, rfl, hll, hc⟩ := id hv.blocks
  obtain ⟨bb, off, sv, rfl, c0, _, _, _, _, hrd⟩ := hc b hb
  obtain ⟨so, sc, rfl, hol, hoc⟩ := hrd
  have hbi : (0 : Int) ≤ (b : Int) := by omega
  have hbj : (b : Int) < (p.blocks.length : Int) := by omega
  have HV := Lib.hid hv
  have HR := Lib.hid r
  have HB := Lib.hid hb0
  have HP := Lib.hid hp
  have hml := fun k => marksT_length p.regs p.slots p.data names (bops p.blocks b) k
  unfold viewV at qm ⊢
  clear r hv hc hb0 hp hoc
  go_enter Tryz.func120, Tryz.ntmps120
  go_wp2
  go_loopw [3, 4] (fun l i wr => ∃ (k : Nat), k ≤ (bops p.blocks b).length ∧ i = .int .i64 k ∧ wr.ownsRow (w.heap.size + 1) 9 1 l (marksT p.regs p.slots p.data names (bops p.blocks b) k).length (texts (marksT p.regs p.slots p.data names (bops p.blocks b) k)) ∧ Row wr w.heap.size 164 (viewC p (.slice (some ⟨bb, off, none⟩) p.blocks.length cap) b nv) ∧ Below w.heap.size w wr ∧ w.heap.size + 1 ≤ wr.heap.size)
    (fun _ i _ => (bops p.blocks b).length - (intOf i).toNat)
  case atStart => exact ⟨0, Nat.zero_le _, rfl, World.ownsRow_nil _ _ _ _, HR.out, HB.out, hz0⟩
  case round =>
    clear HR HB hz0
    obtain ⟨k, hk, rfl, hown, r, hbel, hz⟩ := hrel
    obtain ⟨lo, lc, rfl⟩ := owns_slice hown
    have x0 := cell_keep hbel c0
    have v0 := r.cell (i := 0) rfl
    have v1 := r.cell (i := 1) rfl
    have v2 := r.cell (i := 2) rfl
    have v3 := r.cell (i := 3) rfl
    have v4 := r.cell (i := 4) rfl
    have v5 := r.cell (i := 5) rfl
    have v6 := r.cell (i := 6) rfl
    have hmk := hml k
    by_cases hlt : k < (bops p.blocks b).length
    · have q1 := qm k hlt wr (HV.out.keep hbel)
      have hkj : (k : Int) < ((bops p.blocks b).length : Int) := by omega
      obtain ⟨M, hM⟩ : ∃ M, markT p.regs p.slots p.data names (bops p.blocks b) k = M := ⟨_, rfl⟩
      obtain ⟨L, hL⟩ : ∃ L, marksT p.regs p.slots p.data names (bops p.blocks b) k = L := ⟨_, rfl⟩
      have HS1 : Hid (M ≠ [] ∧ M ∉ L → marksT p.regs p.slots p.data names (bops p.blocks b) (k + 1) = L ++ [M]) := fun h => by rw [← hM, ← hL] at h ⊢; exact marks_more h
      have HS2 : Hid (¬ (M ≠ [] ∧ M ∉ L) → marksT p.regs p.slots p.data names (bops p.blocks b) (k + 1) = L) := fun h => by rw [← hM, ← hL] at h; rw [← hL]; exact marks_same h
      rw [hM] at q1
      rw [hL] at hown hmk ⊢
      clear hM hL
      go_wp2_with fail
      refine q1.mono ?_
      rintro e w2 ⟨rfl, b2⟩
      have own2 := owns_below hown b2 (Nat.le_refl _)
      have r2 := r.keep b2
      have bel2 := hbel.trans (b2.mono hbel.size)
      have z2 : w.heap.size + 1 ≤ w2.heap.size := Nat.le_trans hz b2.size
      have q2 := rIn_any _ L M w2 (texts_rd own2)
      clear q1 hown r hbel hz b2 v0 v1 v2 v3 v4 v5 v6 x0
      go_wp2_with fail
      refine q2.mono ?_
      rintro e w3 ⟨rfl, rfl⟩
      by_cases hmn : M = []
      · subst hmn
        have HX := Lib.hid (HS2.out (by simp))
        have h0 : (str []).toList = [] := by simp [str]
        clear q2 HS1 HS2
        generalize decide ([] ∈ L) = z at *
        go_wp2
        go_roundw
        case rel => exact ⟨k + 1, by omega, by go_num, by rw [HX.out]; exact own2, r2, bel2, z2⟩
        case measure => simp [intOf]; omega
      · have hne0 : (str M).toList ≠ [] := by simp [str, hmn]
        have hne1 : ((str M).toList == []) = false := by simp [str, hmn]
        have hne2 : (str M).toList.isEmpty = false := by simp [str, hmn]
        by_cases hin : M ∈ L
        · have hd : decide (M ∈ L) = true := by simp [hin]
          rw [hd]
          have HX := Lib.hid (HS2.out (fun q => q.2 hin))
          clear q2 HS1 HS2 hd hin hmn
          go_wp2
          go_roundw
          case rel => exact ⟨k + 1, by omega, by go_num, by rw [HX.out]; exact own2, r2, bel2, z2⟩
          case measure => simp [intOf]; omega
        · have hd : decide (M ∈ L) = false := by simp [hin]
          rw [hd]
          have HX := Lib.hid (HS1.out ⟨hmn, hin⟩)
          clear q2 HS1 HS2 hd hin hmn
          go_wp2_with (at_builtin; refine wpList_append_own _ rfl _ _ 105 rfl (w.heap.size + 1) 9 i0 (.string ⟨#[]⟩) 1 16 Tryz.underlying105 ii iz0 iz1 iz2 rfl (by decide) _ _ _ rfl (own2.alloc _) ⟨w2.heap.size, 0, none⟩ 1 1 [.string (str M)] rfl rfl ?c1 (tx_one _) ?c3 ?c4 ?c5 ?_)
          case c1 => exact tx_new w2 _ _
          case c3 => unfold maxLen; omega
          case c4 => omega
          case c5 => simp; omega
          intro v' w4 hown' hgrow _
          rw [← texts_snoc] at hown'
          have hb4 := ((Below.refl (w.heap.size + 1) w2).alloc z2 (.cells #[.string (str M)] 9)).grown hgrow (by simp; omega) (fun g hg => (own2.lt g hg).1)
          have r4 := r2.below hb4 (by omega)
          have bel4 := bel2.trans (hb4.mono (by omega))
          have z4 : w.heap.size + 1 ≤ w4.heap.size := Nat.le_trans z2 hb4.size
          obtain ⟨lo', lc', rfl⟩ := owns_slice hown'
          clear hgrow own2 r2 bel2 hb4
          go_wp2
          go_roundw
          case rel => exact ⟨k + 1, by omega, by go_num, by rw [HX.out]; simpa using hown', r4, bel4, z4⟩
          case measure => simp [intOf]; omega
    · obtain rfl : k = (bops p.blocks b).length := by omega
      have HF := Lib.hid (HP.out _ _ (owns_base hown (by omega)) hbel)
      clear HP hown hbel r
      go_wp2
      exact HF.out

set_option maxRecDepth 100000 in
set_option maxHeartbeats 4000000 in
theorem rMarks_cps (s : ByteArray) (block : Int) (w : World) (hs : s.size ≤ maxLen) (htab : TabW w) (Post : Ending → World → Prop)
    (hp : ∀ l er v w', MarksAns s block l er → w'.ownsRow w.heap.size 9 1 v l.length (texts l) → Below w.heap.size w w' → Post (.returned (.tuple #[v, .int .i64 er])) w') :
    Calls Tryz.prog 89 #[.string s, .int .i64 block] w Post := by
  have hc := rDecode_any s w hs
  have HP := Lib.hid hp
  have HN : Hid (∀ er w', MarksAns s block [] er → Below w.heap.size w w' → Post (.returned (.tuple #[.slice none 0 0, .int .i64 er])) w') := fun er w' h1 h2 => hp [] er _ w' h1 (World.ownsRow_nil _ _ _ _) h2
  clear hp
  go_enter Tryz.func89, Tryz.ntmps89
  go_wp2_with fail
  refine hc.mono ?_
  clear hc
  rintro e w1 ⟨hor, hb1⟩
  rcases hor with ⟨p, v, bv, rfl, ho, hd, hg, ht⟩ | ⟨hn, rfl⟩
  · obtain ⟨bo, bc, rfl⟩ := owns_slice ho.row
    have hlen : bv.length = p.blocks.length := by rw [← hd, bdat_length]
    have hrd0 := ho.rd
    rw [hd] at hrd0
    rw [hlen] at hrd0 ⊢
    obtain ⟨hr, hargs, hdata, hsl⟩ := good_shape hg
    have hb2 : Below w.heap.size w (w1.alloc (.cells #[.int .i64 p.args, .int .i64 p.regs, .int .i64 p.data, .int .i64 p.slots, .slice bo p.blocks.length bc] 25)) := hb1.alloc hb1.size _
    have hb12 : Below w1.heap.size w1 (w1.alloc (.cells #[.int .i64 p.args, .int .i64 p.regs, .int .i64 p.data, .int .i64 p.slots, .slice bo p.blocks.length bc] 25)) := (Below.refl _ _).alloc (Nat.le_refl _) _
    have hrd2 := hrd0.keep hb12
    have hll := progGood_len hg
    unfold progV
    by_cases hall : 0 ≤ block ∧ block < p.blocks.length
    · obtain ⟨ha1, ha2⟩ := id hall
      obtain ⟨b, rfl⟩ := Int.eq_ofNat_of_zero_le ha1
      have hbn : b < p.blocks.length := by omega
      have hq1 : ¬ ((b : Int) < 0) := by omega
      have HALL := Lib.hid hall
      clear hall ho hd hrd0 hb1 hb12 hlen
      have qp := fun P => rPlain_cps p bo p.blocks.length bc b (w1.alloc (.cells #[.int .i64 p.args, .int .i64 p.regs, .int .i64 p.data, .int .i64 p.slots, .slice bo p.blocks.length bc] 25)) ⟨by omega, hr.2⟩ hsl P
      unfold progV viewV at qp
      go_wp2_with fail
      refine qp _ ?_
      intro nv w3 hown hb3
      have hb03 : Below w.heap.size w w3 := hb2.trans (hb3.mono hb2.size)
      have hrd3 := hrd2.keep hb3
      have htab3 := htab.keep hb03
      have hnv := vw_rd hown
      clear hown hb2 hrd2 qp hb3
      have hb4 : Below w.heap.size w (w3.alloc (.cells #[.int .i64 p.args, .int .i64 p.regs, .int .i64 p.data, .int .i64 p.slots, .slice bo p.blocks.length bc, .int .i64 b, nv] 164)) := hb03.alloc hb03.size _
      have hb34 : Below w3.heap.size w3 (w3.alloc (.cells #[.int .i64 p.args, .int .i64 p.regs, .int .i64 p.data, .int .i64 p.slots, .slice bo p.blocks.length bc, .int .i64 b, nv] 164)) := (Below.refl _ _).alloc (Nat.le_refl _) _
      have r4 : Row (w3.alloc (.cells #[.int .i64 p.args, .int .i64 p.regs, .int .i64 p.data, .int .i64 p.slots, .slice bo p.blocks.length bc, .int .i64 b, nv] 164)) w3.heap.size 164 (viewC p (.slice bo p.blocks.length bc) b nv) := heap_alloc_new w3 _
      have V4 : RdView (w3.alloc (.cells #[.int .i64 p.args, .int .i64 p.regs, .int .i64 p.data, .int .i64 p.slots, .slice bo p.blocks.length bc, .int .i64 b, nv] 164)) p (.slice bo p.blocks.length bc) nv (plainNames p.regs p.slots) := ⟨hrd3.keep hb34, hnv.keep hb34, htab3.keep hb34⟩
      have hnm := plain_le p.regs p.slots (by omega)
      have qb := rBig_any p (.slice bo p.blocks.length bc) nv b _ hg hbn hnm _ V4
      obtain ⟨no, nc, rfl, _, _⟩ := id hnv
      unfold viewV at qb
      clear hrd3 htab3 hnv hb03 hb34
      go_wp2_with fail
      refine qb.mono ?_
      rintro e w5 ⟨rfl, hb5⟩
      have V5 := V4.keep hb5
      have r5 := r4.keep hb5
      have hb05 : Below w.heap.size w w5 := hb4.trans (hb5.mono hb4.size)
      clear qb V4 r4 hb4 hb5
      cases hbig : bigT p.regs p.slots (plainNames p.regs p.slots) (bops p.blocks b) with
      | true =>
        have HF := Lib.hid (HN.out 5 w5 (.inr ⟨p, hg, ht, .inr ⟨HALL.out, .inl ⟨rfl, rfl, hbig⟩⟩⟩) hb05)
        clear r5 V5 HN HP hbig
        go_wp2
        exact HF.out
      | false =>
        have u0 := r5.cell (i := 0) rfl
        have u1 := r5.cell (i := 1) rfl
        have u2 := r5.cell (i := 2) rfl
        have u3 := r5.cell (i := 3) rfl
        have u4 := r5.cell (i := 4) rfl
        have u5 := r5.cell (i := 5) rfl
        have u6 := r5.cell (i := 6) rfl
        have qf := fun P => rMarked_cps p (.slice bo p.blocks.length bc) (.slice no (plainNames p.regs p.slots).length nc) b _ hg hbn hnm w5 V5 P
        unfold viewV at qf
        go_wp2_with fail
        refine qf _ ?_
        intro v w6 own6 hb6
        have hb06 : Below w.heap.size w w6 := hb05.trans (hb6.mono hb05.size)
        have HF := Lib.hid (HP.out _ 0 v w6 (.inr ⟨p, hg, ht, .inr ⟨HALL.out, .inr ⟨rfl, hbig, rfl⟩⟩⟩) (by have := owns_base own6 hb05.size; simpa using this) hb06)
        clear u0 u1 u2 u3 u4 u5 u6 qf V5 r5 hb05 hb6 own6 hbig HN HP
        go_wp2
        exact HF.out
    · have HF := Lib.hid (HN.out 4 _ (.inr ⟨p, hg, ht, .inl ⟨rfl, rfl, hall⟩⟩) hb2)
      clear ho hd hrd0 hb1 hb12 hlen hrd2 hb2 HN HP
      by_cases ha1 : block < 0
      · go_wp2
        exact HF.out
      · have ha2 : (p.blocks.length : Int) ≤ block := by omega
        go_wp2
        exact HF.out
  · have HF := Lib.hid (HN.out 1 (w1.alloc (.cells #[.int .i64 0, .int .i64 0, .int .i64 0, .int .i64 0, .slice none 0 0] 25)) (.inl ⟨rfl, rfl, hn⟩) (hb1.alloc hb1.size _))
    clear hb1 hn HN HP
    go_wp2
    exact HF.out

end Go.Proofs.YtblhmeidbjigaabGreatDoor

/- A block out of raw numbers. -/
set_option linter.unusedSimpArgs false
set_option linter.unusedVariables false
namespace Go.Proofs.YtblhmeidbjigaabGreatDoor
open Go.RowKit

theorem owns_keep {S : Nat → Prop} {w w' : World} {base : Nat} {e : TypeId} {sz : Nat} {v : Value} {n : Nat} {xs : List Value} (h : w.ownsRow base e sz v n xs) (hk : Keep S w w') (hS : ∀ g, S g → g < base) : w'.ownsRow base e sz v n xs :=
  owns_same h fun g hg => hk.block g (h.lt g hg).2 (fun hs => by have := hS g hs; have := (h.lt g hg).1; omega)

end Go.Proofs.YtblhmeidbjigaabGreatDoor
