/- The code's terms: withNumber. -/
import Derived.Test.YtblhmeidbjigaabGreatDoorRows
import Derived.WalkKit
import Derived.WalkSpells
import Derived.WalkLawsBesides
import Derived.Laws.BytesArg
import Derived.Deep.QuietTactic
import Derived.BigQuiet
import Derived.Deep.RegionHeld3
import Derived.Lib.ItoaNum
import Derived.Lib.ItoaLen
import Derived.OpenShut
import Derived.Maps.AppendAt
import Derived.Shelf.Strconv.Itoa3
import Derived.Shelf.Lay
import Derived.Ground.NamesProg
import Derived.Lib.SmallJoins
import Derived.Lib.Hide
import Derived.StillTailTactics
import Derived.Test.YtblhmeidbjigaabGreatDoorCTmFToCTmGAll

set_option linter.unusedSimpArgs false
set_option linter.unusedVariables false
namespace Go.Proofs.YtblhmeidbjigaabGreatDoor
open Go.RowKit

/-- What Made answers of '+' and a number. -/
def AddC (a : TD) : Prop := ∀ ⦃Lo : Nat⦄ (pa : Value) (k : Int) (w : World) (Post : Ending → World → Prop), PartsAt Lo w a pa → W64 k → TabW w →
  (∀ ps w', PartsAt Lo w' (addN a k) ps → Below w.heap.size w w' → Post (.returned (termV (addN a k) ps)) w') →
  Calls Tryz.prog 214 #[.int .i64 3, termV a pa, termV (tnum k) (.slice none 0 0)] w Post

theorem keep5 {W V : World} {G : Nat} (h : Keep (fun k => k = G) W V) (a b c d e : Value) : Keep (fun k => k = G) W (((((V.setCell ⟨G, 0, none⟩ a).setCell ⟨G, 1, none⟩ b).setCell ⟨G, 2, none⟩ c).setCell ⟨G, 3, none⟩ d).setCell ⟨G, 4, none⟩ e) :=
  ((((h.setCell (p := ⟨G, 0, none⟩) (.inl rfl) a).setCell (p := ⟨G, 1, none⟩) (.inl rfl) b).setCell (p := ⟨G, 2, none⟩) (.inl rfl) c).setCell (p := ⟨G, 3, none⟩) (.inl rfl) d).setCell (p := ⟨G, 4, none⟩) (.inl rfl) e

theorem PartsAt.keepG {Lo : Nat} {W V : World} {G : Nat} {t : TD} {ps : Value} (h : PartsAt Lo W t ps) (hk : Keep (fun k => k = G) W V) {ty : TypeId} (hr : Row W G ty zT) : PartsAt Lo V t ps := by
  have key : ∀ (g : Nat) (ys : List Value), ys.length ≠ 5 → Row W g 179 ys → Row V g 179 ys := fun g ys hy r =>
    r.same (hk.block g r.lt (fun e => by have e' : g = G := e; subst e'; have := row_one r hr; rw [this] at hy; exact hy rfl))
  induction t generalizing ps with
  | leaf k n => exact ⟨h.1, Nat.le_trans h.2 hk.size⟩
  | two k a b iha ihb => obtain ⟨g, pa, pb, e, lg, r, h1, h2⟩ := h; exact ⟨g, pa, pb, e, lg, key g _ (by simp [tcells]) r, iha h1, ihb h2⟩
  | three k a b c iha ihb ihc => obtain ⟨g, pa, pb, pc, e, lg, r, h1, h2, h3⟩ := h; exact ⟨g, pa, pb, pc, e, lg, key g _ (by simp [tcells]) r, iha h1, ihb h2, ihc h3⟩

set_option maxRecDepth 100000 in
set_option maxHeartbeats 2000000 in
theorem cWith_sub (u : TD) (fu : u.fine) (HA : AddC u) : WithC 4 u := by
  intro Lo pu n w Post hu hn ht h1 h2
  have X0 := Box1.start w u pu
  have hbe : besideT 4 u n = some (addN u (wrap64 (0 - n))) := by simp [besideT]
  have eK : wrap64 (0 - n) = IntKind.i64.wrap (-n) := by simp only [wrap64, IntKind.wrap_i64, Int.zero_sub]
  have hK : W64 (wrap64 (0 - n)) := w64_wrap _
  rw [eK] at hbe hK
  have HP := Lib.hid (fun ps w' => h1 _ ps w' hbe)
  have HX := Lib.hid X0
  have HU := Lib.hid hu
  have HT := Lib.hid ht
  have HM := Lib.hid HA
  obtain ⟨uo, un, uc, rfl⟩ := hu.slice
  unfold termV
  clear h1 h2 X0 hu ht hbe HA hn eK
  go_enter Tryz.func229, Tryz.ntmps229
  go_wp2
  generalize hW : World.alloc _ _ = W
  have X : Box1 w W w.heap.size (w.heap.size + 1) u (.slice uo un uc) := by rw [← hW]; exact HX.out
  have rr := X.ru
  have rg := X.rg
  have hb := X.keep
  have hG : w.heap.size ≤ w.heap.size + 1 := by omega
  have hRG : ¬ (w.heap.size = w.heap.size + 1) := by omega
  have pA := HU.out.keep X.keep
  clear hW HX HU X
  have k0 : Keep (fun k => k = (w.heap.size + 1)) W W.drew := (Keep.refl _ _).below ((Below.refl W.heap.size W).drew) (Nat.le_refl _)
  have KR0 : Keep (fun k => k = (w.heap.size + 1)) W W.drew ∧ Row W.drew (w.heap.size + 1) 179 zT := ⟨k0, rg⟩
  have toB : ∀ V, Keep (fun k => k = (w.heap.size + 1)) W V → Below w.heap.size w V := fun V hk => hb.trans (hk.toBelow hb.size (fun k e => by have : k = (w.heap.size + 1) := e; omega))
  have SS : ∀ V, Keep (fun k => k = (w.heap.size + 1)) W V → Row V w.heap.size 179 (tcells u (.slice uo un uc)) := fun V hk => rr.same (hk.block _ rr.lt hRG)
  have PP : ∀ V, Keep (fun k => k = (w.heap.size + 1)) W V → PartsAt Lo V u (.slice uo un uc) := fun V hk => pA.keepG hk rg
  have d0 := fun V hk => (SS V hk).cell (i := 0) rfl
  have d1 := fun V hk => (SS V hk).cell (i := 1) rfl
  have d2 := fun V hk => (SS V hk).cell (i := 2) rfl
  have d3 := fun V hk => (SS V hk).cell (i := 3) rfl
  have d4 := fun V hk => (SS V hk).cell (i := 4) rfl
  have qn : ∀ V, (Keep (fun k => k = (w.heap.size + 1)) W V ∧ Row V (w.heap.size + 1) 179 zT) → Calls Tryz.prog 199 #[.int .i64 (IntKind.i64.wrap (-n))] V fun e w' => e = .returned (termV (tnum (IntKind.i64.wrap (-n))) (.slice none 0 0)) ∧ (Keep (fun k => k = (w.heap.size + 1)) W w' ∧ Row w' (w.heap.size + 1) 179 zT) := fun V hk =>
    (cOfNumber_any (IntKind.i64.wrap (-n)) hK V (HT.out.keep (toB V hk.1))).mono fun e w' h => ⟨h.1, hk.1.below h.2 hk.1.size, hk.2.keep h.2⟩
  have qm : ∀ V P, (Keep (fun k => k = (w.heap.size + 1)) W V ∧ Row V (w.heap.size + 1) 179 zT) → (∀ ps w', PartsAt Lo w' (addN u (IntKind.i64.wrap (-n))) ps → (Keep (fun k => k = (w.heap.size + 1)) W w' ∧ Row w' (w.heap.size + 1) 179 zT) → P (.returned (termV (addN u (IntKind.i64.wrap (-n))) ps)) w') → Calls Tryz.prog 214 #[.int .i64 3, termV u (.slice uo un uc), termV (tnum (IntKind.i64.wrap (-n))) (.slice none 0 0)] V P := fun V P hk h =>
    HM.out (.slice uo un uc) (IntKind.i64.wrap (-n)) V P (PP V hk.1) hK (HT.out.keep (toB V hk.1)) (fun ps w' p1 p2 => h ps w' p1 ⟨hk.1.below p2 hk.1.size, hk.2.keep p2⟩)
  have HB := Lib.hid toB
  have HGe := Lib.hid hG
  unfold termV at qn qm
  clear toB SS PP hb rr pA rg hRG hG HM
  go_region_held3 (fun V => Keep (fun k => k = (w.heap.size + 1)) W V) (first | exact hk2.1 | exact hk1.1 | with_reducible exact k0 | exact keep5 hk2.1 _ _ _ _ _) (first | (go_at_call 199; with_reducible refine (qn _ ?_).mono ?_; (first | exact KR0 | assumption); rintro e w1 ⟨rfl, hk1⟩) | (go_at_call 214; with_reducible refine qm _ _ ?_ ?_; (first | assumption | exact KR0); intro ps w2 p2 hk2; obtain ⟨to, tn, tc, rfl⟩ := p2.slice; have HF := Lib.hid (HP.out _ _ (p2.on5 hk2.2 rfl (.int .i64 (ckind (addN u (IntKind.i64.wrap (-n))))) (.int .i64 (cval (addN u (IntKind.i64.wrap (-n))))) (.slice to tn tc) (.int .i64 (addN u (IntKind.i64.wrap (-n))).size) (.string (str (showT (addN u (IntKind.i64.wrap (-n))))))) (set5_below (HB.out _ hk2.1) HGe.out _ _ _ _ _)); unfold termV set5 at HF; have z0 := hk2.2.cell (i := 0) rfl; have z1 := hk2.2.cell (i := 1) rfl; have z2 := hk2.2.cell (i := 2) rfl; have z3 := hk2.2.cell (i := 3) rfl; have z4 := hk2.2.cell (i := 4) rfl; have f0 := hk2.2.frozen 0; have f1 := hk2.2.frozen 1; have f2 := hk2.2.frozen 2; have f3 := hk2.2.frozen 3; have f4 := hk2.2.frozen 4))
  go_wp2
  (try simp only [Exit.inBlock, Exit.then])
  refine bodyPost_ret (v := .tuple #[.agg #[.int .i64 (ckind (addN u (IntKind.i64.wrap (-n)))), .int .i64 (cval (addN u (IntKind.i64.wrap (-n)))), (.slice to tn tc), .int .i64 ((addN u (IntKind.i64.wrap (-n)))).size, .string (str (showT (addN u (IntKind.i64.wrap (-n)))))], .bool true]) ?_ rfl ?_
  · simp [results, Tryz.results229, go_sem, z0, z1, z2, z3, z4]
  · exact HF.out

theorem beside_keeps {kind n : Int} {u : TD} (h : keepsT kind n = true) : besideT kind u n = some u := by
  simp only [keepsT, decide_eq_true_eq] at h
  rcases h with ⟨h1 | h1 | h1, h2⟩ | ⟨h1 | h1, h2⟩ | ⟨h1, h2⟩ <;> subst h1 <;> subst h2 <;> simp [besideT]

theorem beside_swallows {kind n : Int} {u : TD} (h : swallowsT kind n = true) : besideT kind u n = some (tnum n) := by
  simp only [swallowsT, decide_eq_true_eq] at h
  rcases h with ⟨h1 | h1, h2⟩ | ⟨h1, h2⟩ <;> subst h1 <;> subst h2 <;> simp [besideT]

theorem beside_else {kind n : Int} {u : TD} (hk : 3 ≤ kind ∧ kind ≤ 11) (h3 : kind ≠ 3) (h4 : kind ≠ 4) (h : keepsT kind n = false) (h' : swallowsT kind n = false) : besideT kind u n = none := by
  simp only [keepsT, swallowsT, decide_eq_false_iff_not] at h h'
  unfold besideT
  rw [if_neg h4, if_neg h3]
  by_cases h5 : kind = 5
  · rw [if_pos h5, if_neg (by omega), if_neg (by omega)]
  rw [if_neg h5]
  by_cases h6 : kind = 6
  · rw [if_pos h6, if_neg (by omega), if_neg (by omega)]
  rw [if_neg h6]
  by_cases h7 : kind = 7
  · rw [if_pos h7, if_neg (by omega), if_neg (by omega)]
  rw [if_neg h7]
  by_cases h8 : kind = 8
  · rw [if_pos h8, if_neg (by omega)]
  rw [if_neg h8]
  by_cases h11 : kind = 11
  · rw [if_pos h11, if_neg (by omega)]
  rw [if_neg h11]

theorem beside_sum {n : Int} {u : TD} (h : keepsT 3 n = false) : besideT 3 u n = u.isPlus.map fun p => addN p.1 (wrap64 (p.2 + n)) := by
  simp only [keepsT, decide_eq_false_iff_not] at h
  have hn : n ≠ 0 := fun e => by subst e; simp at h
  simp [besideT, hn]

set_option maxRecDepth 100000 in
set_option maxHeartbeats 2000000 in
theorem cWith_rest (kind : Int) (hk : 3 ≤ kind ∧ kind ≤ 11) (h4 : kind ≠ 4) (u : TD) (fu : u.fine) (H : ∀ a m, u = .two 3 a (tnum m) → AddC a) : WithC kind u := by
  intro Lo pu n w Post hu hn ht h1 h2
  have X0 := Box1.start w u pu
  obtain ⟨uo, un, uc, rfl⟩ := hu.slice
  have n4 : (kind == 4) = false := by simp [h4]
  have qk := fun V => cKeeps_any kind n hk V
  have qs := fun V => cSwallows_any kind n hk V
  have HX := Lib.hid X0
  have HU := Lib.hid hu
  have HT := Lib.hid ht
  have H1 := Lib.hid h1
  have H2 := Lib.hid h2
  have HK := Lib.hid (And.intro hk h4)
  unfold termV
  clear h1 h2 X0 hu ht h4
  cases hke : keepsT kind n with
  | true =>
    rw [hke] at qk
    have bb : Below w.heap.size w ((w.alloc (.cells #[.int .i64 (ckind u), .int .i64 (cval u), (.slice uo un uc), .int .i64 u.size, .string (str (showT u))] 179)).alloc (.cells #[.int .i64 (ckind u), .int .i64 (cval u), (.slice uo un uc), .int .i64 u.size, .string (str (showT u))] 179)) := ((Below.refl _ _).alloc (Nat.le_refl _) _).alloc (by simp) _
    have HF := Lib.hid (H1.out u (.slice uo un uc) _ (beside_keeps hke) (HU.out.keep bb) bb)
    unfold termV at HF
    clear H1 H2 HX HU HT HK bb hke qs H
    generalize str (showT u) = X1 at *
    generalize ckind u = ku at *
    generalize cval u = nu at *
    generalize u.size = zu at *
    go_enter Tryz.func229, Tryz.ntmps229
    go_wp2_with fail
    refine (qk _).mono ?_
    rintro e w1 ⟨rfl, rfl⟩
    go_wp2
    (try simp only [Exit.inBlock, Exit.then])
    refine bodyPost_ret (v := .tuple #[.agg #[.int .i64 ku, .int .i64 nu, .slice uo un uc, .int .i64 zu, .string X1], .bool true]) ?_ rfl ?_
    · simp [results, Tryz.results229, go_sem, reduceIte]
    · exact HF.out
  | false =>
    rw [hke] at qk
    cases hsw : swallowsT kind n with
    | true =>
      rw [hsw] at qs
      have qn := cOfNumber_any n hn _ (HT.out.keep HX.out.keep)
      have HP := Lib.hid (fun ps w' => H1.out (tnum n) ps w' (beside_swallows hsw))
      unfold termV at qn
      clear H1 H2 HK hke hsw H
      go_enter Tryz.func229, Tryz.ntmps229
      go_wp2_with fail
      refine (qk _).mono ?_
      rintro e w1 ⟨rfl, rfl⟩
      go_wp2_with fail
      refine (qs _).mono ?_
      rintro e w1 ⟨rfl, rfl⟩
      go_wp2_with fail
      refine qn.mono ?_
      rintro e w3 ⟨rfl, b3⟩
      have X := HX.out.next b3
      have y := X.fin (show PartsAt Lo w3 (tnum n) (.slice none 0 0) from HU.out.leaf X.keep 100 n)
      have HF := Lib.hid (HP.out _ _ y.1 y.2)
      unfold termV set5 at HF
      have z0 := X.rg.cell (i := 0) rfl
      have f0 := X.rg.frozen 0
      have z1 := X.rg.cell (i := 1) rfl
      have f1 := X.rg.frozen 1
      have z2 := X.rg.cell (i := 2) rfl
      have f2 := X.rg.frozen 2
      have z3 := X.rg.cell (i := 3) rfl
      have f3 := X.rg.frozen 3
      have z4 := X.rg.cell (i := 4) rfl
      have f4 := X.rg.frozen 4
      clear y X HX HP qn b3
      go_wp2
      (try simp only [Exit.inBlock, Exit.then])
      refine bodyPost_ret (v := .tuple #[.agg #[.int .i64 (ckind (tnum n)), .int .i64 (cval (tnum n)), .slice none 0 0, .int .i64 ((tnum n)).size, .string (str (showT (tnum n)))], .bool true]) ?_ rfl ?_
      · simp [results, Tryz.results229, go_sem, z0, z1, z2, z3, z4]
      · exact HF.out
    | false =>
      rw [hsw] at qs
      by_cases h3 : kind = 3
      · subst h3
        have hbe := beside_sum (u := u) hke
        have qm := fun P => cSum_cps u (.slice uo un uc) _ (HU.out.keep HX.out.keep) fu P
        unfold termV at qm
        clear HK hke hsw
        go_enter Tryz.func229, Tryz.ntmps229
        go_wp2_with fail
        refine (qk _).mono ?_
        rintro e w1 ⟨rfl, rfl⟩
        go_wp2_with fail
        refine (qs _).mono ?_
        rintro e w1 ⟨rfl, rfl⟩
        go_wp2_with fail
        refine qm _ ?_ ?_
        · intro a m pa w4 hpl p4 b4
          rw [hpl] at hbe
          have hK : W64 (wrap64 (m + n)) := w64_wrap _
          have HP := Lib.hid (fun ps w' => H1.out _ ps w' hbe)
          have HM := Lib.hid (H a m (isPlus_some hpl))
          obtain ⟨ao, an, ac, rfl⟩ := p4.slice
          have X4 := HX.out.next b4
          have X5 := X4.next ((Below.refl w4.heap.size w4).alloc (Nat.le_refl _) (.cells #[.int .i64 (ckind a), .int .i64 (cval a), (.slice ao an ac), .int .i64 a.size, .string (str (showT a))] 179))
          have rr0 : Row (w4.alloc (.cells #[.int .i64 (ckind a), .int .i64 (cval a), (.slice ao an ac), .int .i64 a.size, .string (str (showT a))] 179)) w4.heap.size 179 (tcells a (.slice ao an ac)) := heap_alloc_new w4 _
          have p5 := p4.keep ((Below.refl w4.heap.size w4).alloc (Nat.le_refl _) (.cells #[.int .i64 (ckind a), .int .i64 (cval a), (.slice ao an ac), .int .i64 a.size, .string (str (showT a))] 179))
          have hlt := X4.rg.lt
          have HZ := Lib.hid (And.intro X5 (And.intro rr0 p5))
          simp only [] at hK HP
          have eK : wrap64 (m + n) = IntKind.i64.wrap (m + n) := by simp only [wrap64, IntKind.wrap_i64]
          rw [eK] at hK HP
          clear hbe hpl H H1 H2 qm b4 p4 X4 X5 rr0 p5 HX HU eK
          go_wp2
          generalize hW : World.alloc _ _ = W
          have X : Box1 w W w.heap.size (w.heap.size + 1) u (.slice uo un uc) := by rw [← hW]; exact HZ.out.1
          have rr : Row W w4.heap.size 179 (tcells a (.slice ao an ac)) := by rw [← hW]; exact HZ.out.2.1
          have pA : PartsAt Lo W a (.slice ao an ac) := by rw [← hW]; exact HZ.out.2.2
          have rg := X.rg
          have hb := X.keep
          have hG : w.heap.size ≤ w.heap.size + 1 := by omega
          have hRG : ¬ (w4.heap.size = w.heap.size + 1) := by omega
          clear hW HZ X hlt
          have k0 : Keep (fun k => k = (w.heap.size + 1)) W W.drew := (Keep.refl _ _).below ((Below.refl W.heap.size W).drew) (Nat.le_refl _)
          have KR0 : Keep (fun k => k = (w.heap.size + 1)) W W.drew ∧ Row W.drew (w.heap.size + 1) 179 zT := ⟨k0, rg⟩
          have toB : ∀ V, Keep (fun k => k = (w.heap.size + 1)) W V → Below w.heap.size w V := fun V hk => hb.trans (hk.toBelow hb.size (fun k e => by have : k = (w.heap.size + 1) := e; omega))
          have SS : ∀ V, Keep (fun k => k = (w.heap.size + 1)) W V → Row V w4.heap.size 179 (tcells a (.slice ao an ac)) := fun V hk => rr.same (hk.block _ rr.lt hRG)
          have PP : ∀ V, Keep (fun k => k = (w.heap.size + 1)) W V → PartsAt Lo V a (.slice ao an ac) := fun V hk => pA.keepG hk rg
          have d0 := fun V hk => (SS V hk).cell (i := 0) rfl
          have d1 := fun V hk => (SS V hk).cell (i := 1) rfl
          have d2 := fun V hk => (SS V hk).cell (i := 2) rfl
          have d3 := fun V hk => (SS V hk).cell (i := 3) rfl
          have d4 := fun V hk => (SS V hk).cell (i := 4) rfl
          have qn : ∀ V, (Keep (fun k => k = (w.heap.size + 1)) W V ∧ Row V (w.heap.size + 1) 179 zT) → Calls Tryz.prog 199 #[.int .i64 (IntKind.i64.wrap (m + n))] V fun e w' => e = .returned (termV (tnum (IntKind.i64.wrap (m + n))) (.slice none 0 0)) ∧ (Keep (fun k => k = (w.heap.size + 1)) W w' ∧ Row w' (w.heap.size + 1) 179 zT) := fun V hk =>
            (cOfNumber_any (IntKind.i64.wrap (m + n)) hK V (HT.out.keep (toB V hk.1))).mono fun e w' h => ⟨h.1, hk.1.below h.2 hk.1.size, hk.2.keep h.2⟩
          have qm : ∀ V P, (Keep (fun k => k = (w.heap.size + 1)) W V ∧ Row V (w.heap.size + 1) 179 zT) → (∀ ps w', PartsAt Lo w' (addN a (IntKind.i64.wrap (m + n))) ps → (Keep (fun k => k = (w.heap.size + 1)) W w' ∧ Row w' (w.heap.size + 1) 179 zT) → P (.returned (termV (addN a (IntKind.i64.wrap (m + n))) ps)) w') → Calls Tryz.prog 214 #[.int .i64 3, termV a (.slice ao an ac), termV (tnum (IntKind.i64.wrap (m + n))) (.slice none 0 0)] V P := fun V P hk h =>
            HM.out (.slice ao an ac) (IntKind.i64.wrap (m + n)) V P (PP V hk.1) hK (HT.out.keep (toB V hk.1)) (fun ps w' p1 p2 => h ps w' p1 ⟨hk.1.below p2 hk.1.size, hk.2.keep p2⟩)
          have HB := Lib.hid toB
          have HGe := Lib.hid hG
          unfold termV at qn qm
          clear toB SS PP hb rr pA rg hRG hG HM
          go_region_held3 (fun V => Keep (fun k => k = (w.heap.size + 1)) W V) (first | exact hk2.1 | exact hk1.1 | with_reducible exact k0 | exact keep5 hk2.1 _ _ _ _ _) (first | (go_at_call 199; with_reducible refine (qn _ ?_).mono ?_; (first | exact KR0 | assumption); rintro e w1 ⟨rfl, hk1⟩) | (go_at_call 214; with_reducible refine qm _ _ ?_ ?_; (first | assumption | exact KR0); intro ps w2 p2 hk2; obtain ⟨to, tn, tc, rfl⟩ := p2.slice; have HF := Lib.hid (HP.out _ _ (p2.on5 hk2.2 rfl (.int .i64 (ckind (addN a (IntKind.i64.wrap (m + n))))) (.int .i64 (cval (addN a (IntKind.i64.wrap (m + n))))) (.slice to tn tc) (.int .i64 (addN a (IntKind.i64.wrap (m + n))).size) (.string (str (showT (addN a (IntKind.i64.wrap (m + n))))))) (set5_below (HB.out _ hk2.1) HGe.out _ _ _ _ _)); unfold termV set5 at HF; have z0 := hk2.2.cell (i := 0) rfl; have z1 := hk2.2.cell (i := 1) rfl; have z2 := hk2.2.cell (i := 2) rfl; have z3 := hk2.2.cell (i := 3) rfl; have z4 := hk2.2.cell (i := 4) rfl; have f0 := hk2.2.frozen 0; have f1 := hk2.2.frozen 1; have f2 := hk2.2.frozen 2; have f3 := hk2.2.frozen 3; have f4 := hk2.2.frozen 4))
          go_wp2
          (try simp only [Exit.inBlock, Exit.then])
          refine bodyPost_ret (v := .tuple #[.agg #[.int .i64 (ckind (addN a (IntKind.i64.wrap (m + n)))), .int .i64 (cval (addN a (IntKind.i64.wrap (m + n)))), (.slice to tn tc), .int .i64 ((addN a (IntKind.i64.wrap (m + n)))).size, .string (str (showT (addN a (IntKind.i64.wrap (m + n)))))], .bool true]) ?_ rfl ?_
          · simp [results, Tryz.results229, go_sem, z0, z1, z2, z3, z4]
          · exact HF.out
        · intro w4 hpl b4
          rw [hpl] at hbe
          have X4 := HX.out.next b4
          have X5 := X4.next ((Below.refl w4.heap.size w4).alloc (Nat.le_refl _) (.cells #[.int .i64 0, .int .i64 0, .slice none 0 0, .int .i64 0, .string ⟨#[]⟩] 179))
          have HF := Lib.hid (H2.out _ hbe (set5_below X5.keep X5.ge (.int .i64 0) (.int .i64 0) (.slice none 0 0) (.int .i64 0) (.string ⟨#[]⟩)))
          unfold set5 at HF
          have z0 := fun o => (X4.rg.alloc o).cell (i := 0) rfl
          have f0 := fun o => (X4.rg.alloc o).frozen 0
          have z1 := fun o => (X4.rg.alloc o).cell (i := 1) rfl
          have f1 := fun o => (X4.rg.alloc o).frozen 1
          have z2 := fun o => (X4.rg.alloc o).cell (i := 2) rfl
          have f2 := fun o => (X4.rg.alloc o).frozen 2
          have z3 := fun o => (X4.rg.alloc o).cell (i := 3) rfl
          have f3 := fun o => (X4.rg.alloc o).frozen 3
          have z4 := fun o => (X4.rg.alloc o).cell (i := 4) rfl
          have f4 := fun o => (X4.rg.alloc o).frozen 4
          clear hbe hpl H H1 H2 qm b4 X4 X5 HX HU
          go_wp2
          (try simp only [Exit.inBlock, Exit.then])
          refine bodyPost_ret (v := .tuple #[.agg #[.int .i64 0, .int .i64 0, .slice none 0 0, .int .i64 0, .string ⟨#[]⟩], .bool false]) ?_ rfl ?_
          · simp [results, Tryz.results229, go_sem, z0, z1, z2, z3, z4]
          · exact HF.out
      · have hbe := beside_else (u := u) HK.out.1 h3 HK.out.2 hke hsw
        have n3 : (kind == 3) = false := by simp [h3]
        have HF := Lib.hid (H2.out _ hbe HX.out.keep)
        clear H1 H2 HX HU HT HK hke hsw H hbe
        generalize str (showT u) = X1 at *
        generalize ckind u = ku at *
        generalize cval u = nu at *
        generalize u.size = zu at *
        go_enter Tryz.func229, Tryz.ntmps229
        go_wp2_with fail
        refine (qk _).mono ?_
        rintro e w1 ⟨rfl, rfl⟩
        go_wp2_with fail
        refine (qs _).mono ?_
        rintro e w1 ⟨rfl, rfl⟩
        go_wp2
        (try simp only [Exit.inBlock, Exit.then])
        refine bodyPost_ret (v := .tuple #[.agg #[.int .i64 0, .int .i64 0, .slice none 0 0, .int .i64 0, .string ⟨#[]⟩], .bool false]) ?_ rfl ?_
        · simp [results, Tryz.results229, go_sem, reduceIte]
        · exact HF.out

end Go.Proofs.YtblhmeidbjigaabGreatDoor

/- The code's terms: Made. -/
set_option linter.unusedSimpArgs false
set_option linter.unusedVariables false
namespace Go.Proofs.YtblhmeidbjigaabGreatDoor
open Go.RowKit

theorem made_change {kind : Int} {u v : TD} (h : ¬ (u.isNum.isSome = true ∧ v.isNum.isSome = true ∧ ¬ (kind = 11 ∧ numOf v = 0))) : (changeT kind u v = true → madeT kind u v = rowT kind v u) ∧ (changeT kind u v = false → madeT kind u v = rowT kind u v) := by
  cases hu : u.isNum with
  | some a =>
    cases hv : v.isNum with
    | some b =>
      have hab : kind = 11 ∧ b = 0 := by
        have hb : numOf v = b := by simp [numOf, hv]
        rw [hu, hv, hb] at h
        simpa using h
      have hc : changeT kind u v = false := changeT_eq (by rw [turnsT_no (k := kind) (by omega)]; simp)
      exact ⟨fun e => (by rw [hc] at e; cases e), fun _ => made_div0 hu hv hab⟩
    | none =>
      rw [made_left hu hv]
      have hc : changeT kind u v = turnsT kind := changeT_eq (by simp [hu])
      rw [hc]
      exact ⟨fun e => by rw [if_pos e], fun e => by rw [e]; simp⟩
  | none =>
    cases hv : v.isNum with
    | some b =>
      have hc : changeT kind u v = false := changeT_eq (by simp [hu, hv])
      exact ⟨fun e => (by rw [hc] at e; cases e), fun _ => made_right hu hv⟩
    | none =>
      by_cases hs : turnsT kind = true ∧ showT v < showT u
      · have hc : changeT kind u v = true := changeT_eq (by simp [hu, hv, hs.1, hs.2])
        exact ⟨fun _ => made_over hu hv hs, fun e => (by rw [hc] at e; cases e)⟩
      · have hc : changeT kind u v = false := changeT_eq (by simp [hu, hv]; exact fun q q' => hs ⟨q, q'⟩)
        exact ⟨fun e => (by rw [hc] at e; cases e), fun _ => made_stay hu hv hs⟩

set_option maxRecDepth 100000 in
set_option maxHeartbeats 2000000 in
theorem cMade_num {Lo : Nat} (kind : Int) (hk : 3 ≤ kind ∧ kind ≤ 11) (u v : TD) (uo vo : Option Addr) (un uc vn vc : Nat) (w : World) (hu : PartsAt Lo w u (.slice uo un uc)) (hv : PartsAt Lo w v (.slice vo vn vc)) (fu : u.fine) (fv : v.fine) (su : u.size ≤ 1000000000) (sv : v.size ≤ 1000000000) (ht : TabW w) (hb : u.isNum.isSome = true ∧ v.isNum.isSome = true ∧ ¬ (kind = 11 ∧ numOf v = 0)) (Post : Ending → World → Prop)
    (hp : ∀ ps w', PartsAt Lo w' (madeT kind u v) ps → Below w.heap.size w w' → Post (.returned (termV (madeT kind u v) ps)) w') :
    Calls Tryz.prog 214 #[.int .i64 kind, termV u (.slice uo un uc), termV v (.slice vo vn vc)] w Post := by
  have X0 := Box2.start w u v (.slice uo un uc) (.slice vo vn vc)
  have q1 := cNum_any fu (.slice uo un uc) (((w.alloc (.cells #[.int .i64 (ckind u), .int .i64 (cval u), (.slice uo un uc), .int .i64 u.size, .string (str (showT u))] 179)).alloc (.cells #[.int .i64 (ckind v), .int .i64 (cval v), (.slice vo vn vc), .int .i64 v.size, .string (str (showT v))] 179)).alloc (.cells #[.int .i64 0, .int .i64 0, .slice none 0 0, .int .i64 0, .string ⟨#[]⟩] 179))
  have q2 := fun W => cNum_any fv (.slice vo vn vc) W
  obtain ⟨a, ha⟩ := Option.isSome_iff_exists.1 hb.1
  obtain ⟨b, hbb⟩ := Option.isSome_iff_exists.1 hb.2.1
  have na : numOf u = a := by simp [numOf, ha]
  have nb : numOf v = b := by simp [numOf, hbb]
  have em := made_num (kind := kind) ha hbb (by rw [nb] at hb; exact hb.2.2)
  rw [em] at hp
  have h11 : kind = 11 → b ≠ 0 := fun e q => hb.2.2 ⟨e, by rw [nb]; exact q⟩
  rw [hb.1, na] at q1
  rw [hb.2.1, nb] at q2
  have q3 := fun W => wordOf_any kind a b W hk h11
  have q4 := fun W h => cOfNumber_any (calcW kind a b) (w64_calc _ _ _) W h
  have HX := Lib.hid X0
  have HU := Lib.hid hu
  have HT := Lib.hid ht
  have HP := Lib.hid hp
  unfold termV at q1 q2 q4 ⊢
  clear X0 hp hu hv hb ha hbb na nb em h11 ht
  go_enter Tryz.func214, Tryz.ntmps214
  go_wp2_with fail
  refine q1.mono ?_
  rintro e w1 ⟨rfl, b1⟩
  have X1 := HX.out.next b1
  have c0 := X1.rv.cell (i := 0) rfl
  have c1 := X1.rv.cell (i := 1) rfl
  have c2 := X1.rv.cell (i := 2) rfl
  have c3 := X1.rv.cell (i := 3) rfl
  have c4 := X1.rv.cell (i := 4) rfl
  clear q1 b1 HX
  go_wp2_with fail
  refine (q2 w1).mono ?_
  rintro e w2 ⟨rfl, b2⟩
  have X2 := X1.next b2
  clear q2 b2 X1 c0 c1 c2 c3 c4
  go_wp2_with fail
  refine (q3 _).mono ?_
  rintro e w3 ⟨rfl, rfl⟩
  have q5 := q4 _ (HT.out.keep X2.keep)
  clear q3 q4
  go_wp2_with fail
  refine q5.mono ?_
  rintro e w4 ⟨rfl, b4⟩
  have X := X2.next b4
  have y := X.fin (show PartsAt Lo w4 (tnum (calcW kind a b)) (.slice none 0 0) from HU.out.leaf X.keep 100 _)
  have HF := Lib.hid (HP.out _ _ y.1 y.2)
  unfold termV set5 at HF
  have z0 := X.rg.cell (i := 0) rfl
  have f0 := X.rg.frozen 0
  have z1 := X.rg.cell (i := 1) rfl
  have f1 := X.rg.frozen 1
  have z2 := X.rg.cell (i := 2) rfl
  have f2 := X.rg.frozen 2
  have z3 := X.rg.cell (i := 3) rfl
  have f3 := X.rg.frozen 3
  have z4 := X.rg.cell (i := 4) rfl
  have f4 := X.rg.frozen 4
  clear y X X2 HP q5 b4
  go_wp2
  (try simp only [Exit.inBlock, Exit.then])
  refine bodyPost_ret (v := .agg #[.int .i64 (ckind (tnum (calcW kind a b))), .int .i64 (cval (tnum (calcW kind a b))), .slice none 0 0, .int .i64 ((tnum (calcW kind a b))).size, .string (str (showT (tnum (calcW kind a b))))]) ?_ rfl ?_
  · simp [results, Tryz.results214, go_sem, z0, z1, z2, z3, z4]
  · exact HF.out

set_option maxRecDepth 100000 in
set_option maxHeartbeats 4000000 in
theorem cMade_row {Lo : Nat} (kind : Int) (hk : 3 ≤ kind ∧ kind ≤ 11) (u v : TD) (uo vo : Option Addr) (un uc vn vc : Nat) (w : World) (hu : PartsAt Lo w u (.slice uo un uc)) (hv : PartsAt Lo w v (.slice vo vn vc)) (fu : u.fine) (fv : v.fine) (su : u.size ≤ 1000000000) (sv : v.size ≤ 1000000000) (ht : TabW w) (hb : ¬ (u.isNum.isSome = true ∧ v.isNum.isSome = true ∧ ¬ (kind = 11 ∧ numOf v = 0))) (HWu : WithC kind u) (HWv : changeT kind u v = true → WithC kind v) (Post : Ending → World → Prop)
    (hp : ∀ ps w', PartsAt Lo w' (madeT kind u v) ps → Below w.heap.size w w' → Post (.returned (termV (madeT kind u v) ps)) w') :
    Calls Tryz.prog 214 #[.int .i64 kind, termV u (.slice uo un uc), termV v (.slice vo vn vc)] w Post := by
  have X0 := Box2.start w u v (.slice uo un uc) (.slice vo vn vc)
  have q1 := cNum_any fu (.slice uo un uc) (((w.alloc (.cells #[.int .i64 (ckind u), .int .i64 (cval u), (.slice uo un uc), .int .i64 u.size, .string (str (showT u))] 179)).alloc (.cells #[.int .i64 (ckind v), .int .i64 (cval v), (.slice vo vn vc), .int .i64 v.size, .string (str (showT v))] 179)).alloc (.cells #[.int .i64 0, .int .i64 0, .slice none 0 0, .int .i64 0, .string ⟨#[]⟩] 179))
  have q2 := fun W => cNum_any fv (.slice vo vn vc) W
  have mc := made_change hb
  have HM : Hid ((changeT kind u v = true → ∀ ps w', PartsAt Lo w' (rowT kind v u) ps → Below w.heap.size w w' → Post (.returned (termV (rowT kind v u) ps)) w') ∧ (changeT kind u v = false → ∀ ps w', PartsAt Lo w' (rowT kind u v) ps → Below w.heap.size w w' → Post (.returned (termV (rowT kind u v) ps)) w')) :=
    ⟨fun e => by rw [← mc.1 e]; exact hp, fun e => by rw [← mc.2 e]; exact hp⟩
  have HX := Lib.hid X0
  have HT := Lib.hid ht
  have HU := Lib.hid hu
  have HV := Lib.hid hv
  have q0 := fun x W => wordOf_zero x W
  have HB := Lib.hid hb
  unfold termV at q1 q2 ⊢
  clear X0 hp hu hv ht mc hb
  cases hsu : u.isNum.isSome with
  | false =>
    rw [hsu] at q1
    clear hsu HB q0
    generalize numOf u = x at *
    generalize numOf v = y at *
    generalize v.isNum.isSome = sv0 at *
    go_enter Tryz.func214, Tryz.ntmps214
    go_wp2_with fail
    refine q1.mono ?_
    rintro e w1 ⟨rfl, b1⟩
    have X1 := HX.out.next b1
    have c0 := X1.rv.cell (i := 0) rfl
    have c1 := X1.rv.cell (i := 1) rfl
    have c2 := X1.rv.cell (i := 2) rfl
    have c3 := X1.rv.cell (i := 3) rfl
    have c4 := X1.rv.cell (i := 4) rfl
    clear q1 b1 HX
    go_wp2_with fail
    refine (q2 w1).mono ?_
    rintro e w2 ⟨rfl, b2⟩
    have X2 := X1.next b2
    clear q2 b2 X1 c0 c1 c2 c3 c4
    have a0 := X2.ru.cell (i := 0) rfl
    have a1 := X2.ru.cell (i := 1) rfl
    have a2 := X2.ru.cell (i := 2) rfl
    have a3 := X2.ru.cell (i := 3) rfl
    have a4 := X2.ru.cell (i := 4) rfl
    have c0 := X2.rv.cell (i := 0) rfl
    have c1 := X2.rv.cell (i := 1) rfl
    have c2 := X2.rv.cell (i := 2) rfl
    have c3 := X2.rv.cell (i := 3) rfl
    have c4 := X2.rv.cell (i := 4) rfl
    have q6 := cChange_any kind hk u v (.slice uo un uc) (.slice vo vn vc) fu fv w2
    unfold termV at q6
    go_wp2_with fail
    refine q6.mono ?_
    rintro e w6 ⟨rfl, b6⟩
    have X6 := X2.next b6
    clear q6 b6 a0 a1 a2 a3 a4 c0 c1 c2 c3 c4
    cases hch : changeT kind u v with
    | true =>
      have HP := Lib.hid (HM.out.1 hch)
      have HWv' := HWv hch
      have a0 := X6.ru.cell (i := 0) rfl
      have a1 := X6.ru.cell (i := 1) rfl
      have a2 := X6.ru.cell (i := 2) rfl
      have a3 := X6.ru.cell (i := 3) rfl
      have a4 := X6.ru.cell (i := 4) rfl
      have c0 := X6.rv.cell (i := 0) rfl
      have c1 := X6.rv.cell (i := 1) rfl
      have c2 := X6.rv.cell (i := 2) rfl
      have c3 := X6.rv.cell (i := 3) rfl
      have c4 := X6.rv.cell (i := 4) rfl
      have q7 := fun P => cInOrder_cps kind hk v u (.slice vo vn vc) (.slice uo un uc) w6 (HV.out.keep X6.keep) (HU.out.keep X6.keep) fv fu sv su (HT.out.keep X6.keep) HWv' P
      unfold termV at q7
      go_wp2_with fail
      refine q7 _ ?_
      intro pt w7 p7 b7
      have X7 := X6.next b7
      obtain ⟨to, tn, tc, rfl⟩ := p7.slice
      have y := X7.fin p7
      have HF := Lib.hid (HP.out _ _ y.1 y.2)
      unfold termV set5 at HF
      clear q7 a0 a1 a2 a3 a4 c0 c1 c2 c3 c4 b7 y p7
      have z0 := X7.rg.cell (i := 0) rfl
      have f0 := X7.rg.frozen 0
      have z1 := X7.rg.cell (i := 1) rfl
      have f1 := X7.rg.frozen 1
      have z2 := X7.rg.cell (i := 2) rfl
      have f2 := X7.rg.frozen 2
      have z3 := X7.rg.cell (i := 3) rfl
      have f3 := X7.rg.frozen 3
      have z4 := X7.rg.cell (i := 4) rfl
      have f4 := X7.rg.frozen 4
      go_wp2
      (try simp only [Exit.inBlock, Exit.then])
      refine bodyPost_ret (v := .agg #[.int .i64 (ckind (rowT kind v u)), .int .i64 (cval (rowT kind v u)), (.slice to tn tc), .int .i64 ((rowT kind v u)).size, .string (str (showT (rowT kind v u)))]) ?_ rfl ?_
      · simp [results, Tryz.results214, go_sem, z0, z1, z2, z3, z4]
      · exact HF.out
    | false =>
      have HP := Lib.hid (HM.out.2 hch)
      have a0 := X6.ru.cell (i := 0) rfl
      have a1 := X6.ru.cell (i := 1) rfl
      have a2 := X6.ru.cell (i := 2) rfl
      have a3 := X6.ru.cell (i := 3) rfl
      have a4 := X6.ru.cell (i := 4) rfl
      have c0 := X6.rv.cell (i := 0) rfl
      have c1 := X6.rv.cell (i := 1) rfl
      have c2 := X6.rv.cell (i := 2) rfl
      have c3 := X6.rv.cell (i := 3) rfl
      have c4 := X6.rv.cell (i := 4) rfl
      have q7 := fun P => cInOrder_cps kind hk u v (.slice uo un uc) (.slice vo vn vc) w6 (HU.out.keep X6.keep) (HV.out.keep X6.keep) fu fv su sv (HT.out.keep X6.keep) HWu P
      unfold termV at q7
      go_wp2_with fail
      refine q7 _ ?_
      intro pt w7 p7 b7
      have X7 := X6.next b7
      obtain ⟨to, tn, tc, rfl⟩ := p7.slice
      have y := X7.fin p7
      have HF := Lib.hid (HP.out _ _ y.1 y.2)
      unfold termV set5 at HF
      clear q7 a0 a1 a2 a3 a4 c0 c1 c2 c3 c4 b7 y p7
      have z0 := X7.rg.cell (i := 0) rfl
      have f0 := X7.rg.frozen 0
      have z1 := X7.rg.cell (i := 1) rfl
      have f1 := X7.rg.frozen 1
      have z2 := X7.rg.cell (i := 2) rfl
      have f2 := X7.rg.frozen 2
      have z3 := X7.rg.cell (i := 3) rfl
      have f3 := X7.rg.frozen 3
      have z4 := X7.rg.cell (i := 4) rfl
      have f4 := X7.rg.frozen 4
      go_wp2
      (try simp only [Exit.inBlock, Exit.then])
      refine bodyPost_ret (v := .agg #[.int .i64 (ckind (rowT kind u v)), .int .i64 (cval (rowT kind u v)), (.slice to tn tc), .int .i64 ((rowT kind u v)).size, .string (str (showT (rowT kind u v)))]) ?_ rfl ?_
      · simp [results, Tryz.results214, go_sem, z0, z1, z2, z3, z4]
      · exact HF.out
  | true =>
    rw [hsu] at q1
    cases hsv : v.isNum.isSome with
    | false =>
      rw [hsv] at q2
      clear hsu hsv HB q0
      generalize numOf u = x at *
      generalize numOf v = y at *
      go_enter Tryz.func214, Tryz.ntmps214
      go_wp2_with fail
      refine q1.mono ?_
      rintro e w1 ⟨rfl, b1⟩
      have X1 := HX.out.next b1
      have c0 := X1.rv.cell (i := 0) rfl
      have c1 := X1.rv.cell (i := 1) rfl
      have c2 := X1.rv.cell (i := 2) rfl
      have c3 := X1.rv.cell (i := 3) rfl
      have c4 := X1.rv.cell (i := 4) rfl
      clear q1 b1 HX
      go_wp2_with fail
      refine (q2 w1).mono ?_
      rintro e w2 ⟨rfl, b2⟩
      have X2 := X1.next b2
      clear q2 b2 X1 c0 c1 c2 c3 c4
      have a0 := X2.ru.cell (i := 0) rfl
      have a1 := X2.ru.cell (i := 1) rfl
      have a2 := X2.ru.cell (i := 2) rfl
      have a3 := X2.ru.cell (i := 3) rfl
      have a4 := X2.ru.cell (i := 4) rfl
      have c0 := X2.rv.cell (i := 0) rfl
      have c1 := X2.rv.cell (i := 1) rfl
      have c2 := X2.rv.cell (i := 2) rfl
      have c3 := X2.rv.cell (i := 3) rfl
      have c4 := X2.rv.cell (i := 4) rfl
      have q6 := cChange_any kind hk u v (.slice uo un uc) (.slice vo vn vc) fu fv w2
      unfold termV at q6
      go_wp2_with fail
      refine q6.mono ?_
      rintro e w6 ⟨rfl, b6⟩
      have X6 := X2.next b6
      clear q6 b6 a0 a1 a2 a3 a4 c0 c1 c2 c3 c4
      cases hch : changeT kind u v with
      | true =>
        have HP := Lib.hid (HM.out.1 hch)
        have HWv' := HWv hch
        have a0 := X6.ru.cell (i := 0) rfl
        have a1 := X6.ru.cell (i := 1) rfl
        have a2 := X6.ru.cell (i := 2) rfl
        have a3 := X6.ru.cell (i := 3) rfl
        have a4 := X6.ru.cell (i := 4) rfl
        have c0 := X6.rv.cell (i := 0) rfl
        have c1 := X6.rv.cell (i := 1) rfl
        have c2 := X6.rv.cell (i := 2) rfl
        have c3 := X6.rv.cell (i := 3) rfl
        have c4 := X6.rv.cell (i := 4) rfl
        have q7 := fun P => cInOrder_cps kind hk v u (.slice vo vn vc) (.slice uo un uc) w6 (HV.out.keep X6.keep) (HU.out.keep X6.keep) fv fu sv su (HT.out.keep X6.keep) HWv' P
        unfold termV at q7
        go_wp2_with fail
        refine q7 _ ?_
        intro pt w7 p7 b7
        have X7 := X6.next b7
        obtain ⟨to, tn, tc, rfl⟩ := p7.slice
        have y := X7.fin p7
        have HF := Lib.hid (HP.out _ _ y.1 y.2)
        unfold termV set5 at HF
        clear q7 a0 a1 a2 a3 a4 c0 c1 c2 c3 c4 b7 y p7
        have z0 := X7.rg.cell (i := 0) rfl
        have f0 := X7.rg.frozen 0
        have z1 := X7.rg.cell (i := 1) rfl
        have f1 := X7.rg.frozen 1
        have z2 := X7.rg.cell (i := 2) rfl
        have f2 := X7.rg.frozen 2
        have z3 := X7.rg.cell (i := 3) rfl
        have f3 := X7.rg.frozen 3
        have z4 := X7.rg.cell (i := 4) rfl
        have f4 := X7.rg.frozen 4
        go_wp2
        (try simp only [Exit.inBlock, Exit.then])
        refine bodyPost_ret (v := .agg #[.int .i64 (ckind (rowT kind v u)), .int .i64 (cval (rowT kind v u)), (.slice to tn tc), .int .i64 ((rowT kind v u)).size, .string (str (showT (rowT kind v u)))]) ?_ rfl ?_
        · simp [results, Tryz.results214, go_sem, z0, z1, z2, z3, z4]
        · exact HF.out
      | false =>
        have HP := Lib.hid (HM.out.2 hch)
        have a0 := X6.ru.cell (i := 0) rfl
        have a1 := X6.ru.cell (i := 1) rfl
        have a2 := X6.ru.cell (i := 2) rfl
        have a3 := X6.ru.cell (i := 3) rfl
        have a4 := X6.ru.cell (i := 4) rfl
        have c0 := X6.rv.cell (i := 0) rfl
        have c1 := X6.rv.cell (i := 1) rfl
        have c2 := X6.rv.cell (i := 2) rfl
        have c3 := X6.rv.cell (i := 3) rfl
        have c4 := X6.rv.cell (i := 4) rfl
        have q7 := fun P => cInOrder_cps kind hk u v (.slice uo un uc) (.slice vo vn vc) w6 (HU.out.keep X6.keep) (HV.out.keep X6.keep) fu fv su sv (HT.out.keep X6.keep) HWu P
        unfold termV at q7
        go_wp2_with fail
        refine q7 _ ?_
        intro pt w7 p7 b7
        have X7 := X6.next b7
        obtain ⟨to, tn, tc, rfl⟩ := p7.slice
        have y := X7.fin p7
        have HF := Lib.hid (HP.out _ _ y.1 y.2)
        unfold termV set5 at HF
        clear q7 a0 a1 a2 a3 a4 c0 c1 c2 c3 c4 b7 y p7
        have z0 := X7.rg.cell (i := 0) rfl
        have f0 := X7.rg.frozen 0
        have z1 := X7.rg.cell (i := 1) rfl
        have f1 := X7.rg.frozen 1
        have z2 := X7.rg.cell (i := 2) rfl
        have f2 := X7.rg.frozen 2
        have z3 := X7.rg.cell (i := 3) rfl
        have f3 := X7.rg.frozen 3
        have z4 := X7.rg.cell (i := 4) rfl
        have f4 := X7.rg.frozen 4
        go_wp2
        (try simp only [Exit.inBlock, Exit.then])
        refine bodyPost_ret (v := .agg #[.int .i64 (ckind (rowT kind u v)), .int .i64 (cval (rowT kind u v)), (.slice to tn tc), .int .i64 ((rowT kind u v)).size, .string (str (showT (rowT kind u v)))]) ?_ rfl ?_
        · simp [results, Tryz.results214, go_sem, z0, z1, z2, z3, z4]
        · exact HF.out
    | true =>
      rw [hsv] at q2
      have h11 : kind = 11 ∧ numOf v = 0 := by
        have := HB.out
        rw [hsu, hsv] at this
        simpa using this
      obtain ⟨rfl, hn0⟩ := h11
      rw [hn0] at q2
      clear hsu hsv HB hn0
      generalize numOf u = x at *
      go_enter Tryz.func214, Tryz.ntmps214
      go_wp2_with fail
      refine q1.mono ?_
      rintro e w1 ⟨rfl, b1⟩
      have X1 := HX.out.next b1
      have c0 := X1.rv.cell (i := 0) rfl
      have c1 := X1.rv.cell (i := 1) rfl
      have c2 := X1.rv.cell (i := 2) rfl
      have c3 := X1.rv.cell (i := 3) rfl
      have c4 := X1.rv.cell (i := 4) rfl
      clear q1 b1 HX
      go_wp2_with fail
      refine (q2 w1).mono ?_
      rintro e w2 ⟨rfl, b2⟩
      have X2 := X1.next b2
      clear q2 b2 X1 c0 c1 c2 c3 c4
      go_wp2_with fail
      refine (q0 x _).mono ?_
      rintro e w3 ⟨rfl, rfl⟩
      clear q0
      have a0 := X2.ru.cell (i := 0) rfl
      have a1 := X2.ru.cell (i := 1) rfl
      have a2 := X2.ru.cell (i := 2) rfl
      have a3 := X2.ru.cell (i := 3) rfl
      have a4 := X2.ru.cell (i := 4) rfl
      have c0 := X2.rv.cell (i := 0) rfl
      have c1 := X2.rv.cell (i := 1) rfl
      have c2 := X2.rv.cell (i := 2) rfl
      have c3 := X2.rv.cell (i := 3) rfl
      have c4 := X2.rv.cell (i := 4) rfl
      have q6 := cChange_any 11 (by omega) u v (.slice uo un uc) (.slice vo vn vc) fu fv w2
      unfold termV at q6
      go_wp2_with fail
      refine q6.mono ?_
      rintro e w6 ⟨rfl, b6⟩
      have X6 := X2.next b6
      clear q6 b6 a0 a1 a2 a3 a4 c0 c1 c2 c3 c4
      cases hch : changeT 11 u v with
      | true =>
        have HP := Lib.hid (HM.out.1 hch)
        have HWv' := HWv hch
        have a0 := X6.ru.cell (i := 0) rfl
        have a1 := X6.ru.cell (i := 1) rfl
        have a2 := X6.ru.cell (i := 2) rfl
        have a3 := X6.ru.cell (i := 3) rfl
        have a4 := X6.ru.cell (i := 4) rfl
        have c0 := X6.rv.cell (i := 0) rfl
        have c1 := X6.rv.cell (i := 1) rfl
        have c2 := X6.rv.cell (i := 2) rfl
        have c3 := X6.rv.cell (i := 3) rfl
        have c4 := X6.rv.cell (i := 4) rfl
        have q7 := fun P => cInOrder_cps 11 (by omega) v u (.slice vo vn vc) (.slice uo un uc) w6 (HV.out.keep X6.keep) (HU.out.keep X6.keep) fv fu sv su (HT.out.keep X6.keep) HWv' P
        unfold termV at q7
        go_wp2_with fail
        refine q7 _ ?_
        intro pt w7 p7 b7
        have X7 := X6.next b7
        obtain ⟨to, tn, tc, rfl⟩ := p7.slice
        have y := X7.fin p7
        have HF := Lib.hid (HP.out _ _ y.1 y.2)
        unfold termV set5 at HF
        clear q7 a0 a1 a2 a3 a4 c0 c1 c2 c3 c4 b7 y p7
        have z0 := X7.rg.cell (i := 0) rfl
        have f0 := X7.rg.frozen 0
        have z1 := X7.rg.cell (i := 1) rfl
        have f1 := X7.rg.frozen 1
        have z2 := X7.rg.cell (i := 2) rfl
        have f2 := X7.rg.frozen 2
        have z3 := X7.rg.cell (i := 3) rfl
        have f3 := X7.rg.frozen 3
        have z4 := X7.rg.cell (i := 4) rfl
        have f4 := X7.rg.frozen 4
        go_wp2
        (try simp only [Exit.inBlock, Exit.then])
        refine bodyPost_ret (v := .agg #[.int .i64 (ckind (rowT 11 v u)), .int .i64 (cval (rowT 11 v u)), (.slice to tn tc), .int .i64 ((rowT 11 v u)).size, .string (str (showT (rowT 11 v u)))]) ?_ rfl ?_
        · simp [results, Tryz.results214, go_sem, z0, z1, z2, z3, z4]
        · exact HF.out
      | false =>
        have HP := Lib.hid (HM.out.2 hch)
        have a0 := X6.ru.cell (i := 0) rfl
        have a1 := X6.ru.cell (i := 1) rfl
        have a2 := X6.ru.cell (i := 2) rfl
        have a3 := X6.ru.cell (i := 3) rfl
        have a4 := X6.ru.cell (i := 4) rfl
        have c0 := X6.rv.cell (i := 0) rfl
        have c1 := X6.rv.cell (i := 1) rfl
        have c2 := X6.rv.cell (i := 2) rfl
        have c3 := X6.rv.cell (i := 3) rfl
        have c4 := X6.rv.cell (i := 4) rfl
        have q7 := fun P => cInOrder_cps 11 (by omega) u v (.slice uo un uc) (.slice vo vn vc) w6 (HU.out.keep X6.keep) (HV.out.keep X6.keep) fu fv su sv (HT.out.keep X6.keep) HWu P
        unfold termV at q7
        go_wp2_with fail
        refine q7 _ ?_
        intro pt w7 p7 b7
        have X7 := X6.next b7
        obtain ⟨to, tn, tc, rfl⟩ := p7.slice
        have y := X7.fin p7
        have HF := Lib.hid (HP.out _ _ y.1 y.2)
        unfold termV set5 at HF
        clear q7 a0 a1 a2 a3 a4 c0 c1 c2 c3 c4 b7 y p7
        have z0 := X7.rg.cell (i := 0) rfl
        have f0 := X7.rg.frozen 0
        have z1 := X7.rg.cell (i := 1) rfl
        have f1 := X7.rg.frozen 1
        have z2 := X7.rg.cell (i := 2) rfl
        have f2 := X7.rg.frozen 2
        have z3 := X7.rg.cell (i := 3) rfl
        have f3 := X7.rg.frozen 3
        have z4 := X7.rg.cell (i := 4) rfl
        have f4 := X7.rg.frozen 4
        go_wp2
        (try simp only [Exit.inBlock, Exit.then])
        refine bodyPost_ret (v := .agg #[.int .i64 (ckind (rowT 11 u v)), .int .i64 (cval (rowT 11 u v)), (.slice to tn tc), .int .i64 ((rowT 11 u v)).size, .string (str (showT (rowT 11 u v)))]) ?_ rfl ?_
        · simp [results, Tryz.results214, go_sem, z0, z1, z2, z3, z4]
        · exact HF.out

theorem cMade_with {Lo : Nat} (kind : Int) (hk : 3 ≤ kind ∧ kind ≤ 11) (u v : TD) (pu pv : Value) (w : World) (hu : PartsAt Lo w u pu) (hv : PartsAt Lo w v pv) (fu : u.fine) (fv : v.fine) (su : u.size ≤ 1000000000) (sv : v.size ≤ 1000000000) (ht : TabW w) (HWu : WithC kind u) (HWv : changeT kind u v = true → WithC kind v) (Post : Ending → World → Prop)
    (hp : ∀ ps w', PartsAt Lo w' (madeT kind u v) ps → Below w.heap.size w w' → Post (.returned (termV (madeT kind u v) ps)) w') :
    Calls Tryz.prog 214 #[.int .i64 kind, termV u pu, termV v pv] w Post := by
  obtain ⟨uo, un, uc, rfl⟩ := hu.slice
  obtain ⟨vo, vn, vc, rfl⟩ := hv.slice
  by_cases hb : u.isNum.isSome = true ∧ v.isNum.isSome = true ∧ ¬ (kind = 11 ∧ numOf v = 0)
  · exact cMade_num kind hk u v uo vo un uc vn vc w hu hv fu fv su sv ht hb Post hp
  · exact cMade_row kind hk u v uo vo un uc vn vc w hu hv fu fv su sv ht hb HWu HWv Post hp

theorem cMade_add (u : TD) (fu : u.fine) (su : u.size ≤ 1000000000) (HW : WithC 3 u) : AddC u := by
  intro Lo pu k w Post hu hk ht hp
  rw [← made_add] at hp
  cases hn : u.isNum with
  | some a =>
    obtain ⟨uo, un, uc, rfl⟩ := hu.slice
    exact cMade_num 3 (by omega) u (tnum k) uo none un uc 0 0 w hu (hu.leaf (Below.refl _ _) 100 k) fu (tnum_fine hk) su (by simp [tnum, TD.size]) ht ⟨by simp [hn], by simp [num_isNum], by omega⟩ Post hp
  | none =>
    refine cMade_with 3 (by omega) u (tnum k) pu (.slice none 0 0) w hu (hu.leaf (Below.refl _ _) 100 k) fu (tnum_fine hk) su (by simp [tnum, TD.size]) ht HW (fun e => ?_) Post hp
    have hc : changeT 3 u (tnum k) = false := changeT_eq (by simp [hn, num_isNum])
    rw [hc] at e; cases e

theorem cAdd_all (u : TD) : u.fine → u.size ≤ 1000000000 → AddC u := by
  induction u with
  | leaf k n => exact fun f s => cMade_add _ f s (cWith_rest 3 (by omega) (by omega) _ f (fun a m e => by cases e))
  | two k a b iha ihb =>
    intro f s
    refine cMade_add _ f s (cWith_rest 3 (by omega) (by omega) _ f (fun a' m e => ?_))
    cases e
    exact iha f.2.2.1 (by simp only [TD.size] at s; omega)
  | three k a b c => exact fun f s => cMade_add _ f s (cWith_rest 3 (by omega) (by omega) _ f (fun a' m e => by cases e))

theorem cWith_any (kind : Int) (hk : 3 ≤ kind ∧ kind ≤ 11) (u : TD) (fu : u.fine) (su : u.size ≤ 1000000000) : WithC kind u := by
  by_cases h4 : kind = 4
  · subst h4; exact cWith_sub u fu (cAdd_all u fu su)
  · refine cWith_rest kind hk h4 u fu (fun a m e => ?_)
    subst e
    exact cAdd_all a fu.2.2.1 (by simp only [TD.size] at su; omega)

theorem cMade_cps {Lo : Nat} (kind : Int) (hk : 3 ≤ kind ∧ kind ≤ 11) (u v : TD) (pu pv : Value) (w : World) (hu : PartsAt Lo w u pu) (hv : PartsAt Lo w v pv) (fu : u.fine) (fv : v.fine) (su : u.size ≤ 1000000000) (sv : v.size ≤ 1000000000) (ht : TabW w) (Post : Ending → World → Prop)
    (hp : ∀ ps w', PartsAt Lo w' (madeT kind u v) ps → Below w.heap.size w w' → Post (.returned (termV (madeT kind u v) ps)) w') :
    Calls Tryz.prog 214 #[.int .i64 kind, termV u pu, termV v pv] w Post :=
  cMade_with kind hk u v pu pv w hu hv fu fv su sv ht (cWith_any kind hk u fu su) (fun _ => cWith_any kind hk v fv sv) Post hp

end Go.Proofs.YtblhmeidbjigaabGreatDoor
