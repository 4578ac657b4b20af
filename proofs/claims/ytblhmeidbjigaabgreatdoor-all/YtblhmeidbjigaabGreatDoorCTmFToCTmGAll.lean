/- The code's terms: keeps, swallows, ofSame, changePlaces. -/
import Derived.Test.YtblhmeidbjigaabGreatDoorRows
import Derived.WalkKit
import Derived.WalkSpells
import Derived.WalkLawsBesides
import Derived.Laws.BytesArg
import Derived.Deep.QuietTactic
import Derived.BigQuiet
import Derived.Deep.RegionHeld3
import Derived.Lib.ItoaNum
import Derived.Lib.ItoaLen
import Derived.OpenShut
import Derived.Maps.AppendAt
import Derived.Shelf.Strconv.Itoa3
import Derived.Shelf.Lay
import Derived.Ground.NamesProg
import Derived.Lib.SmallJoins
import Derived.Lib.Hide
import Derived.StillTailTactics
import Derived.Test.YtblhmeidbjigaabGreatDoorCTmBToCTmEAll

set_option linter.unusedSimpArgs false
set_option linter.unusedVariables false
namespace Go.Proofs.YtblhmeidbjigaabGreatDoor
open Go.RowKit

def keepsT (kind n : Int) : Bool := decide (((kind = 3 ∨ kind = 7 ∨ kind = 8) ∧ n = 0) ∨ ((kind = 5 ∨ kind = 11) ∧ n = 1) ∨ (kind = 6 ∧ n = -1))
def swallowsT (kind n : Int) : Bool := decide (((kind = 5 ∨ kind = 6) ∧ n = 0) ∨ (kind = 7 ∧ n = -1))

set_option maxRecDepth 100000 in
set_option maxHeartbeats 1000000 in
theorem cKeeps_any (kind n : Int) (hk : 3 ≤ kind ∧ kind ≤ 11) (w : World) : Calls Tryz.prog 232 #[.int .i64 kind, .int .i64 n] w fun e w' => e = .returned (.bool (keepsT kind n)) ∧ w = w' := by
  have h : kind = 3 ∨ kind = 4 ∨ kind = 5 ∨ kind = 6 ∨ kind = 7 ∨ kind = 8 ∨ kind = 9 ∨ kind = 10 ∨ kind = 11 := by omega
  rcases h with rfl | rfl | rfl | rfl | rfl | rfl | rfl | rfl | rfl
  all_goals
    go_enter Tryz.func232, Tryz.ntmps232
    go_wp2
    go_ret
    refine ⟨?_, rfl⟩
    first | rfl | (simp [keepsT]; done) | (by_cases h0 : n = 0 <;> by_cases h1 : n = 1 <;> by_cases h2 : n = -1 <;> simp [keepsT, h0, h1, h2] <;> omega)

set_option maxRecDepth 100000 in
set_option maxHeartbeats 1000000 in
theorem cSwallows_any (kind n : Int) (hk : 3 ≤ kind ∧ kind ≤ 11) (w : World) : Calls Tryz.prog 233 #[.int .i64 kind, .int .i64 n] w fun e w' => e = .returned (.bool (swallowsT kind n)) ∧ w = w' := by
  have h : kind = 3 ∨ kind = 4 ∨ kind = 5 ∨ kind = 6 ∨ kind = 7 ∨ kind = 8 ∨ kind = 9 ∨ kind = 10 ∨ kind = 11 := by omega
  rcases h with rfl | rfl | rfl | rfl | rfl | rfl | rfl | rfl | rfl
  all_goals
    go_enter Tryz.func233, Tryz.ntmps233
    go_wp2
    go_ret
    refine ⟨?_, rfl⟩
    first | rfl | (simp [swallowsT]; done) | (by_cases h0 : n = 0 <;> by_cases h2 : n = -1 <;> simp [swallowsT, h0, h2] <;> omega)

/-- What comes of a word and the same word. -/
def ofSameT (kind : Int) (u : TD) : Option TD := if kind = 4 ∨ kind = 8 ∨ kind = 9 then some (tnum 0) else if kind = 6 ∨ kind = 7 then some u else if kind = 10 then some (tnum 1) else none

set_option maxRecDepth 100000 in
set_option maxHeartbeats 4000000 in
theorem cOfSame_cps {Lo : Nat} (kind : Int) (hk : 3 ≤ kind ∧ kind ≤ 11) (u : TD) (pu : Value) (w : World) (hu : PartsAt Lo w u pu) (ht : TabW w) (Post : Ending → World → Prop)
    (h1 : ∀ t pt w', ofSameT kind u = some t → PartsAt Lo w' t pt → Below w.heap.size w w' → Post (.returned (.tuple #[termV t pt, .bool true])) w')
    (h2 : ∀ w', ofSameT kind u = none → Below w.heap.size w w' → Post (.returned (.tuple #[.agg #[.int .i64 0, .int .i64 0, .slice none 0 0, .int .i64 0, .string ⟨#[]⟩], .bool false])) w') :
    Calls Tryz.prog 230 #[.int .i64 kind, termV u pu] w Post := by
  have X0 := Box1.start w u pu
  have w0 : W64 0 := by constructor <;> decide
  have w1 : W64 1 := by constructor <;> decide
  have q0 := cOfNumber_any 0 w0 _ (ht.keep X0.keep)
  have q1 := cOfNumber_any 1 w1 _ (ht.keep X0.keep)
  have HX := Lib.hid X0
  have HU := Lib.hid (hu.keep X0.keep)
  obtain ⟨uo, un, uc, rfl⟩ := hu.slice
  have h : kind = 3 ∨ kind = 4 ∨ kind = 5 ∨ kind = 6 ∨ kind = 7 ∨ kind = 8 ∨ kind = 9 ∨ kind = 10 ∨ kind = 11 := by omega
  rw [num_V] at q0 q1
  unfold termV
  have e0 : ∀ n : Int, termV (tnum n) (.slice none 0 0) = .agg #[.int .i64 1, .int .i64 n, .slice none 0 0, .int .i64 1, .string (str (Lib.itoa n))] := fun n => num_V n _
  have zero : ∀ w1, ofSameT kind u = some (tnum 0) → Below ((w.alloc (.cells #[.int .i64 (ckind u), .int .i64 (cval u), (.slice uo un uc), .int .i64 u.size, .string (str (showT u))] 179)).alloc (.cells #[.int .i64 0, .int .i64 0, .slice none 0 0, .int .i64 0, .string ⟨#[]⟩] 179)).heap.size ((w.alloc (.cells #[.int .i64 (ckind u), .int .i64 (cval u), (.slice uo un uc), .int .i64 u.size, .string (str (showT u))] 179)).alloc (.cells #[.int .i64 0, .int .i64 0, .slice none 0 0, .int .i64 0, .string ⟨#[]⟩] 179)) w1 → Post (.returned (.tuple #[.agg #[.int .i64 1, .int .i64 0, .slice none 0 0, .int .i64 1, .string (str (Lib.itoa 0))], .bool true])) (set5 w1 (w.heap.size + 1) (.int .i64 1) (.int .i64 0) (.slice none 0 0) (.int .i64 1) (.string (str (Lib.itoa 0)))) := by
    intro w1 he b1
    have X := HX.out.next b1
    have y := h1 (tnum 0) (.slice none 0 0) (set5 w1 (w.heap.size + 1) (.int .i64 1) (.int .i64 0) (.slice none 0 0) (.int .i64 1) (.string (str (Lib.itoa 0)))) he (hu.leaf (set5_below X.keep X.ge _ _ _ _ _) 100 0) (set5_below X.keep X.ge _ _ _ _ _)
    rw [e0] at y; exact y
  have one : ∀ w1, ofSameT kind u = some (tnum 1) → Below ((w.alloc (.cells #[.int .i64 (ckind u), .int .i64 (cval u), (.slice uo un uc), .int .i64 u.size, .string (str (showT u))] 179)).alloc (.cells #[.int .i64 0, .int .i64 0, .slice none 0 0, .int .i64 0, .string ⟨#[]⟩] 179)).heap.size ((w.alloc (.cells #[.int .i64 (ckind u), .int .i64 (cval u), (.slice uo un uc), .int .i64 u.size, .string (str (showT u))] 179)).alloc (.cells #[.int .i64 0, .int .i64 0, .slice none 0 0, .int .i64 0, .string ⟨#[]⟩] 179)) w1 → Post (.returned (.tuple #[.agg #[.int .i64 1, .int .i64 1, .slice none 0 0, .int .i64 1, .string (str (Lib.itoa 1))], .bool true])) (set5 w1 (w.heap.size + 1) (.int .i64 1) (.int .i64 1) (.slice none 0 0) (.int .i64 1) (.string (str (Lib.itoa 1)))) := by
    intro w1 he b1
    have X := HX.out.next b1
    have y := h1 (tnum 1) (.slice none 0 0) (set5 w1 (w.heap.size + 1) (.int .i64 1) (.int .i64 1) (.slice none 0 0) (.int .i64 1) (.string (str (Lib.itoa 1)))) he (hu.leaf (set5_below X.keep X.ge _ _ _ _ _) 100 1) (set5_below X.keep X.ge _ _ _ _ _)
    rw [e0] at y; exact y
  have H0 := Lib.hid zero
  have H1 := Lib.hid one
  have HN := Lib.hid (fun he => h2 _ he X0.keep)
  have HS : Hid (ofSameT kind u = some u → Post (.returned (.tuple #[.agg #[.int .i64 (ckind u), .int .i64 (cval u), .slice uo un uc, .int .i64 u.size, .string (str (showT u))], .bool true])) ((w.alloc (.cells #[.int .i64 (ckind u), .int .i64 (cval u), (.slice uo un uc), .int .i64 u.size, .string (str (showT u))] 179)).alloc (.cells #[.int .i64 (ckind u), .int .i64 (cval u), (.slice uo un uc), .int .i64 u.size, .string (str (showT u))] 179))) := by
    intro he
    exact h1 u (.slice uo un uc) _ he (hu.keep (((Below.refl _ _).alloc (Nat.le_refl _) _).alloc (by simp) _)) (((Below.refl _ _).alloc (Nat.le_refl _) _).alloc (by simp) _)
  clear h1 h2 X0 hu e0 zero one ht
  generalize str (Lib.itoa 0) = S0 at *
  generalize str (Lib.itoa 1) = S1 at *
  rcases h with rfl | rfl | rfl | rfl | rfl | rfl | rfl | rfl | rfl
  · have HF := Lib.hid (HN.out (by simp [ofSameT]))
    clear H0 H1 HN HS q0 q1 HX HU
    go_enter Tryz.func230, Tryz.ntmps230
    go_wp2
    (try simp only [Exit.inBlock, Exit.then])
    refine bodyPost_ret (v := .tuple #[.agg #[.int .i64 0, .int .i64 0, .slice none 0 0, .int .i64 0, .string ⟨#[]⟩], .bool false]) ?_ rfl ?_
    · simp [results, Tryz.results230, go_sem, reduceIte]
    · exact HF.out
  · have HF0 := Lib.hid (fun w1 => H0.out w1 (by simp [ofSameT]))
    clear H0 H1 HN HS HU
    go_enter Tryz.func230, Tryz.ntmps230
    go_wp2_with fail
    refine q0.mono ?_
    rintro e w1 ⟨rfl, b1⟩
    have X := HX.out.next b1
    have HF := Lib.hid (HF0.out w1 b1)
    unfold set5 at HF
    have z0 := X.rg.cell (i := 0) rfl
    have f0 := X.rg.frozen 0
    have z1 := X.rg.cell (i := 1) rfl
    have f1 := X.rg.frozen 1
    have z2 := X.rg.cell (i := 2) rfl
    have f2 := X.rg.frozen 2
    have z3 := X.rg.cell (i := 3) rfl
    have f3 := X.rg.frozen 3
    have z4 := X.rg.cell (i := 4) rfl
    have f4 := X.rg.frozen 4
    clear X b1 q0 q1 HX HF0
    go_wp2
    (try simp only [Exit.inBlock, Exit.then])
    refine bodyPost_ret (v := .tuple #[.agg #[.int .i64 1, .int .i64 0, .slice none 0 0, .int .i64 1, .string S0], .bool true]) ?_ rfl ?_
    · simp [results, Tryz.results230, go_sem, z0, z1, z2, z3, z4]
    · exact HF.out
  · have HF := Lib.hid (HN.out (by simp [ofSameT]))
    clear H0 H1 HN HS q0 q1 HX HU
    go_enter Tryz.func230, Tryz.ntmps230
    go_wp2
    (try simp only [Exit.inBlock, Exit.then])
    refine bodyPost_ret (v := .tuple #[.agg #[.int .i64 0, .int .i64 0, .slice none 0 0, .int .i64 0, .string ⟨#[]⟩], .bool false]) ?_ rfl ?_
    · simp [results, Tryz.results230, go_sem, reduceIte]
    · exact HF.out
  · have HF := Lib.hid (HS.out (by simp [ofSameT]))
    clear H0 H1 HN HS q0 q1 HX HU
    generalize str (showT u) = X1 at *
    generalize ckind u = ku at *
    generalize cval u = nu at *
    generalize u.size = zu at *
    go_enter Tryz.func230, Tryz.ntmps230
    go_wp2
    (try simp only [Exit.inBlock, Exit.then])
    refine bodyPost_ret (v := .tuple #[.agg #[.int .i64 ku, .int .i64 nu, .slice uo un uc, .int .i64 zu, .string X1], .bool true]) ?_ rfl ?_
    · simp [results, Tryz.results230, go_sem, reduceIte]
    · exact HF.out
  · have HF := Lib.hid (HS.out (by simp [ofSameT]))
    clear H0 H1 HN HS q0 q1 HX HU
    generalize str (showT u) = X1 at *
    generalize ckind u = ku at *
    generalize cval u = nu at *
    generalize u.size = zu at *
    go_enter Tryz.func230, Tryz.ntmps230
    go_wp2
    (try simp only [Exit.inBlock, Exit.then])
    refine bodyPost_ret (v := .tuple #[.agg #[.int .i64 ku, .int .i64 nu, .slice uo un uc, .int .i64 zu, .string X1], .bool true]) ?_ rfl ?_
    · simp [results, Tryz.results230, go_sem, reduceIte]
    · exact HF.out
  · have HF0 := Lib.hid (fun w1 => H0.out w1 (by simp [ofSameT]))
    clear H0 H1 HN HS HU
    go_enter Tryz.func230, Tryz.ntmps230
    go_wp2_with fail
    refine q0.mono ?_
    rintro e w1 ⟨rfl, b1⟩
    have X := HX.out.next b1
    have HF := Lib.hid (HF0.out w1 b1)
    unfold set5 at HF
    have z0 := X.rg.cell (i := 0) rfl
    have f0 := X.rg.frozen 0
    have z1 := X.rg.cell (i := 1) rfl
    have f1 := X.rg.frozen 1
    have z2 := X.rg.cell (i := 2) rfl
    have f2 := X.rg.frozen 2
    have z3 := X.rg.cell (i := 3) rfl
    have f3 := X.rg.frozen 3
    have z4 := X.rg.cell (i := 4) rfl
    have f4 := X.rg.frozen 4
    clear X b1 q0 q1 HX HF0
    go_wp2
    (try simp only [Exit.inBlock, Exit.then])
    refine bodyPost_ret (v := .tuple #[.agg #[.int .i64 1, .int .i64 0, .slice none 0 0, .int .i64 1, .string S0], .bool true]) ?_ rfl ?_
    · simp [results, Tryz.results230, go_sem, z0, z1, z2, z3, z4]
    · exact HF.out
  · have HF0 := Lib.hid (fun w1 => H0.out w1 (by simp [ofSameT]))
    clear H0 H1 HN HS HU
    go_enter Tryz.func230, Tryz.ntmps230
    go_wp2_with fail
    refine q0.mono ?_
    rintro e w1 ⟨rfl, b1⟩
    have X := HX.out.next b1
    have HF := Lib.hid (HF0.out w1 b1)
    unfold set5 at HF
    have z0 := X.rg.cell (i := 0) rfl
    have f0 := X.rg.frozen 0
    have z1 := X.rg.cell (i := 1) rfl
    have f1 := X.rg.frozen 1
    have z2 := X.rg.cell (i := 2) rfl
    have f2 := X.rg.frozen 2
    have z3 := X.rg.cell (i := 3) rfl
    have f3 := X.rg.frozen 3
    have z4 := X.rg.cell (i := 4) rfl
    have f4 := X.rg.frozen 4
    clear X b1 q0 q1 HX HF0
    go_wp2
    (try simp only [Exit.inBlock, Exit.then])
    refine bodyPost_ret (v := .tuple #[.agg #[.int .i64 1, .int .i64 0, .slice none 0 0, .int .i64 1, .string S0], .bool true]) ?_ rfl ?_
    · simp [results, Tryz.results230, go_sem, z0, z1, z2, z3, z4]
    · exact HF.out
  · have HF0 := Lib.hid (fun w1 => H1.out w1 (by simp [ofSameT]))
    clear H0 H1 HN HS HU
    go_enter Tryz.func230, Tryz.ntmps230
    go_wp2_with fail
    refine q1.mono ?_
    rintro e w1 ⟨rfl, b1⟩
    have X := HX.out.next b1
    have HF := Lib.hid (HF0.out w1 b1)
    unfold set5 at HF
    have z0 := X.rg.cell (i := 0) rfl
    have f0 := X.rg.frozen 0
    have z1 := X.rg.cell (i := 1) rfl
    have f1 := X.rg.frozen 1
    have z2 := X.rg.cell (i := 2) rfl
    have f2 := X.rg.frozen 2
    have z3 := X.rg.cell (i := 3) rfl
    have f3 := X.rg.frozen 3
    have z4 := X.rg.cell (i := 4) rfl
    have f4 := X.rg.frozen 4
    clear X b1 q0 q1 HX HF0
    go_wp2
    (try simp only [Exit.inBlock, Exit.then])
    refine bodyPost_ret (v := .tuple #[.agg #[.int .i64 1, .int .i64 1, .slice none 0 0, .int .i64 1, .string S1], .bool true]) ?_ rfl ?_
    · simp [results, Tryz.results230, go_sem, z0, z1, z2, z3, z4]
    · exact HF.out
  · have HF := Lib.hid (HN.out (by simp [ofSameT]))
    clear H0 H1 HN HS q0 q1 HX HU
    go_enter Tryz.func230, Tryz.ntmps230
    go_wp2
    (try simp only [Exit.inBlock, Exit.then])
    refine bodyPost_ret (v := .tuple #[.agg #[.int .i64 0, .int .i64 0, .slice none 0 0, .int .i64 0, .string ⟨#[]⟩], .bool false]) ?_ rfl ?_
    · simp [results, Tryz.results230, go_sem, reduceIte]
    · exact HF.out

/-- Do u and v change places? -/
noncomputable def changeT (kind : Int) (u v : TD) : Bool := @decide (turnsT kind = true ∧ (u.isNum.isSome = true ∨ (u.isNum = none ∧ v.isNum = none ∧ showT v < showT u))) (Classical.propDecidable _)

theorem changeT_eq {kind : Int} {u v : TD} {z : Bool} (h : (turnsT kind = true ∧ (u.isNum.isSome = true ∨ (u.isNum = none ∧ v.isNum = none ∧ showT v < showT u))) ↔ z = true) : changeT kind u v = z := by
  unfold changeT
  cases z with
  | true => simpa using h.2 rfl
  | false => exact (decide_eq_false_iff_not).2 (fun q => by have := h.1 q; cases this)

set_option maxRecDepth 100000 in
set_option maxHeartbeats 4000000 in
theorem cChange_any (kind : Int) (hk : 3 ≤ kind ∧ kind ≤ 11) (u v : TD) (pu pv : Value) (fu : u.fine) (fv : v.fine) (w : World) :
    Calls Tryz.prog 223 #[.int .i64 kind, termV u pu, termV v pv] w fun e w' => e = .returned (.bool (changeT kind u v)) ∧ Below w.heap.size w w' := by
  have X0 := Duo.start w u v pu pv
  have q1 := cNum_any fu pu ((w.alloc (.cells #[.int .i64 (ckind u), .int .i64 (cval u), pu, .int .i64 u.size, .string (str (showT u))] 179)).alloc (.cells #[.int .i64 (ckind v), .int .i64 (cval v), pv, .int .i64 v.size, .string (str (showT v))] 179))
  have q2 := fun W => cNum_any fv pv W
  have hl := less_show u v
  have HX := Lib.hid X0
  unfold termV at q1 q2 ⊢
  by_cases ht : turnsT kind = true
  · have hk' := (turnsT_eq kind).1 ht
    have n4 : (kind == 4) = false := by simp; omega
    have n9 : (kind == 9) = false := by simp; omega
    have n11 : (kind == 11) = false := by simp; omega
    have HC : Hid (∀ z, ((u.isNum.isSome = true ∨ (u.isNum = none ∧ v.isNum = none ∧ showT v < showT u)) ↔ z = true) → changeT kind u v = z) := fun z hz => changeT_eq (by rw [← hz]; simp [ht])
    have hul : u.isNum = none ↔ u.isNum.isSome = false := by cases u.isNum <;> simp
    have hvl : v.isNum = none ↔ v.isNum.isSome = false := by cases v.isNum <;> simp
    rw [hul, hvl] at HC
    clear X0 ht hk' hul hvl
    generalize numOf u = x at *
    generalize numOf v = y at *
    generalize u.isNum.isSome = su at *
    generalize v.isNum.isSome = sv at *
    go_enter Tryz.func223, Tryz.ntmps223
    go_wp2_with fail
    refine q1.mono ?_
    rintro e w1 ⟨rfl, b1⟩
    have X := HX.out.next b1
    have HY := Lib.hid X
    have c0 := X.rv.cell (i := 0) rfl
    have c1 := X.rv.cell (i := 1) rfl
    have c2 := X.rv.cell (i := 2) rfl
    have c3 := X.rv.cell (i := 3) rfl
    have c4 := X.rv.cell (i := 4) rfl
    clear X b1 q1 HX
    go_wp2_with fail
    refine (q2 w1).mono ?_
    rintro e w2 ⟨rfl, b2⟩
    have X2 := HY.out.next b2
    have HB := Lib.hid X2.keep
    have d4 := X2.rv.cell (i := 4) rfl
    have e4 := X2.ru.cell (i := 4) rfl
    clear b2 q2 HY c0 c1 c2 c3 c4 X2
    cases su with
    | true =>
      have HE := Lib.hid (HC.out true (by simp))
      clear HC hl
      go_wp2
      go_ret
      exact ⟨by rw [HE.out]; rfl, HB.out⟩
    | false =>
      cases sv with
      | true =>
        have HE := Lib.hid (HC.out false (by simp))
        clear HC hl
        go_wp2
        go_ret
        exact ⟨by rw [HE.out]; rfl, HB.out⟩
      | false =>
        have HE := Lib.hid (HC.out (Op.bytesLess (str (showT v)).toList (str (showT u)).toList) (by rw [hl]; simp))
        clear HC hl
        go_wp2
        go_ret
        exact ⟨by rw [HE.out]; rfl, HB.out⟩
  · have hc : changeT kind u v = false := changeT_eq (by simp [ht])
    rw [hc]
    have h3 : kind = 4 ∨ kind = 9 ∨ kind = 11 := by
      have : ¬ (kind = 3 ∨ kind = 5 ∨ kind = 6 ∨ kind = 7 ∨ kind = 8 ∨ kind = 10) := fun q => ht ((turnsT_eq kind).2 q)
      omega
    have HB := Lib.hid X0.keep
    clear X0 HX q1 q2 hl hc ht
    rcases h3 with rfl | rfl | rfl
    all_goals
      go_enter Tryz.func223, Tryz.ntmps223
      go_wp2
      go_ret
      exact ⟨rfl, HB.out⟩

end Go.Proofs.YtblhmeidbjigaabGreatDoor

/- The code's terms: inOrder, given withNumber. -/
set_option linter.unusedSimpArgs false
set_option linter.unusedVariables false
namespace Go.Proofs.YtblhmeidbjigaabGreatDoor
open Go.RowKit

/-- What withNumber answers. -/
def WithC (kind : Int) (u : TD) : Prop := ∀ ⦃Lo : Nat⦄ (pu : Value) (n : Int) (w : World) (Post : Ending → World → Prop), PartsAt Lo w u pu → W64 n → TabW w →
  (∀ t pt w', besideT kind u n = some t → PartsAt Lo w' t pt → Below w.heap.size w w' → Post (.returned (.tuple #[termV t pt, .bool true])) w') →
  (∀ w', besideT kind u n = none → Below w.heap.size w w' → Post (.returned (.tuple #[.agg #[.int .i64 0, .int .i64 0, .slice none 0 0, .int .i64 0, .string ⟨#[]⟩], .bool false])) w') →
  Calls Tryz.prog 229 #[.int .i64 kind, termV u pu, .int .i64 n] w Post

theorem rest_same {kind : Int} {u v : TD} (h : u = v) : restT kind u v = (ofSameT kind u).getD (if kind = 10 then tnum 1 else .two kind u v) := by
  unfold ofSameT
  by_cases h1 : kind = 4 ∨ kind = 8 ∨ kind = 9
  · rw [rest_zero h h1, if_pos h1]; rfl
  rw [if_neg h1]
  by_cases h2 : kind = 6 ∨ kind = 7
  · rw [rest_self h h2, if_pos h2]; rfl
  rw [if_neg h2]
  by_cases h3 : kind = 10
  · rw [rest_one h h3, if_pos h3]; rfl
  rw [if_neg h3, if_neg h3]
  unfold restT
  rw [if_neg (fun q => h1 q.2), if_neg (fun q => h2 q.2), if_neg (fun q => h3 q.2), if_neg (fun q => h3 q.1)]
  rfl

set_option maxRecDepth 100000 in
set_option maxHeartbeats 2000000 in
theorem cInOrder_none {Lo : Nat} (kind : Int) (hk : 3 ≤ kind ∧ kind ≤ 11) (u v : TD) (uo vo : Option Addr) (un uc vn vc : Nat) (w : World) (hu : PartsAt Lo w u (.slice uo un uc)) (hv : PartsAt Lo w v (.slice vo vn vc)) (fu : u.fine) (fv : v.fine) (su : u.size ≤ 1000000000) (sv : v.size ≤ 1000000000) (ht : TabW w) (hn : v.isNum = none) (Post : Ending → World → Prop)
    (hp : ∀ ps w', PartsAt Lo w' (restT kind u v) ps → Below w.heap.size w w' → Post (.returned (termV (restT kind u v) ps)) w') :
    Calls Tryz.prog 224 #[.int .i64 kind, termV u (.slice uo un uc), termV v (.slice vo vn vc)] w Post := by
  have X0 := Box2.start w u v (.slice uo un uc) (.slice vo vn vc)
  have q1 := cNumber_none fv hn (.slice vo vn vc) (((w.alloc (.cells #[.int .i64 (ckind u), .int .i64 (cval u), (.slice uo un uc), .int .i64 u.size, .string (str (showT u))] 179)).alloc (.cells #[.int .i64 (ckind v), .int .i64 (cval v), (.slice vo vn vc), .int .i64 v.size, .string (str (showT v))] 179)).alloc (.cells #[.int .i64 0, .int .i64 0, .slice none 0 0, .int .i64 0, .string ⟨#[]⟩] 179))
  have HX := Lib.hid X0
  have HU := Lib.hid hu
  have HV := Lib.hid hv
  have HT := Lib.hid ht
  have HR : Hid (∀ t, restT kind u v = t → ∀ ps w', PartsAt Lo w' t ps → Below w.heap.size w w' → Post (.returned (termV t ps)) w') := fun t e => by subst e; exact hp
  unfold termV at q1 ⊢
  clear X0 hu hv ht hp
  go_enter Tryz.func224, Tryz.ntmps224
  go_wp2_with fail
  refine q1.mono ?_
  rintro e w1 ⟨rfl, b1⟩
  have X := HX.out.next b1
  clear q1 b1 HX
  have a0 := X.ru.cell (i := 0) rfl
  have a1 := X.ru.cell (i := 1) rfl
  have a2 := X.ru.cell (i := 2) rfl
  have a3 := X.ru.cell (i := 3) rfl
  have a4 := X.ru.cell (i := 4) rfl
  have c0 := X.rv.cell (i := 0) rfl
  have c1 := X.rv.cell (i := 1) rfl
  have c2 := X.rv.cell (i := 2) rfl
  have c3 := X.rv.cell (i := 3) rfl
  have c4 := X.rv.cell (i := 4) rfl
  have q5 := cSame_any u v (.slice uo un uc) (.slice vo vn vc) fu fv w1
  unfold termV at q5
  go_wp2_with fail
  refine q5.mono ?_
  rintro e w5 ⟨rfl, b5⟩
  have X5 := X.next b5
  clear q5 a0 a1 a2 a3 a4 c0 c1 c2 c3 c4 b5
  by_cases huv : u = v
  · rw [(sameT_iff u v).2 huv]
    have HUV := Lib.hid huv
    clear huv
    have a0 := X5.ru.cell (i := 0) rfl
    have a1 := X5.ru.cell (i := 1) rfl
    have a2 := X5.ru.cell (i := 2) rfl
    have a3 := X5.ru.cell (i := 3) rfl
    have a4 := X5.ru.cell (i := 4) rfl
    have q6 := fun P => cOfSame_cps kind hk u (.slice uo un uc) w5 (HU.out.keep X5.keep) (HT.out.keep X5.keep) P
    unfold termV at q6
    go_wp2_with fail
    refine q6 _ ?_ ?_
    · intro t pt w6 he p6 b6
      have X6 := X5.next b6
      obtain ⟨to, tn, tc, rfl⟩ := p6.slice
      have hrow : restT kind u v = t := by rw [rest_same HUV.out, he]; rfl
      have X7 := X6.next ((Below.refl w6.heap.size w6).alloc (Nat.le_refl _) (.cells #[.int .i64 (ckind t), .int .i64 (cval t), (.slice to tn tc), .int .i64 t.size, .string (str (showT t))] 179))
      have p7 := p6.keep ((Below.refl w6.heap.size w6).alloc (Nat.le_refl _) (.cells #[.int .i64 (ckind t), .int .i64 (cval t), (.slice to tn tc), .int .i64 t.size, .string (str (showT t))] 179))
      have HP' := Lib.hid (HR.out t hrow)
      clear q6 a0 a1 a2 a3 a4 b6 p6 X6 X5 he
      have y := X7.fin p7
      have HF := Lib.hid (HP'.out _ _ y.1 y.2)
      unfold termV set5 at HF
      have z0 := X7.rg.cell (i := 0) rfl
      have f0 := X7.rg.frozen 0
      have z1 := X7.rg.cell (i := 1) rfl
      have f1 := X7.rg.frozen 1
      have z2 := X7.rg.cell (i := 2) rfl
      have f2 := X7.rg.frozen 2
      have z3 := X7.rg.cell (i := 3) rfl
      have f3 := X7.rg.frozen 3
      have z4 := X7.rg.cell (i := 4) rfl
      have f4 := X7.rg.frozen 4
      clear y
      go_wp2
      (try simp only [Exit.inBlock, Exit.then])
      refine bodyPost_ret (v := .agg #[.int .i64 (ckind t), .int .i64 (cval t), (.slice to tn tc), .int .i64 (t).size, .string (str (showT t))]) ?_ rfl ?_
      · simp [results, Tryz.results224, go_sem, z0, z1, z2, z3, z4]
      · exact HF.out
    · intro w6 he b6
      have Y6 := X5.next b6
      have X6 := Y6.next ((Below.refl w6.heap.size w6).alloc (Nat.le_refl _) (.cells #[.int .i64 0, .int .i64 0, .slice none 0 0, .int .i64 0, .string ⟨#[]⟩] 179))
      have hk3 : (kind == 10) = false := by
        have : kind ≠ 10 := fun e => by rw [e] at he; simp [ofSameT] at he
        simp [this]
      have hrow : restT kind u v = .two kind u v := by rw [rest_same HUV.out, he]; simp only [Option.getD]; rw [if_neg (by simpa using hk3)]
      have HP' := Lib.hid (HR.out _ hrow)
      clear q6 a0 a1 a2 a3 a4 b6 X5 he
      have a0 := fun o => (Y6.ru.alloc o).cell (i := 0) rfl
      have a1 := fun o => (Y6.ru.alloc o).cell (i := 1) rfl
      have a2 := fun o => (Y6.ru.alloc o).cell (i := 2) rfl
      have a3 := fun o => (Y6.ru.alloc o).cell (i := 3) rfl
      have a4 := fun o => (Y6.ru.alloc o).cell (i := 4) rfl
      have c0 := fun o => (Y6.rv.alloc o).cell (i := 0) rfl
      have c1 := fun o => (Y6.rv.alloc o).cell (i := 1) rfl
      have c2 := fun o => (Y6.rv.alloc o).cell (i := 2) rfl
      have c3 := fun o => (Y6.rv.alloc o).cell (i := 3) rfl
      have c4 := fun o => (Y6.rv.alloc o).cell (i := 4) rfl
      have q9 := fun P => cOfTwo_cps kind ⟨hk.1, by omega⟩ u v (.slice uo un uc) (.slice vo vn vc) (w6.alloc (.cells #[.int .i64 0, .int .i64 0, .slice none 0 0, .int .i64 0, .string ⟨#[]⟩] 179)) (HU.out.keep X6.keep) (HV.out.keep X6.keep) fu fv (by omega) (by omega) P
      unfold termV at q9
      go_wp2_with fail
      refine q9 _ ?_
      intro pt w9 p9 b9
      have X9 := X6.next b9
      obtain ⟨to, tn, tc, rfl⟩ := p9.slice
      clear q9 a0 a1 a2 a3 a4 c0 c1 c2 c3 c4
      have y := X9.fin p9
      have HF := Lib.hid (HP'.out _ _ y.1 y.2)
      unfold termV set5 at HF
      have z0 := X9.rg.cell (i := 0) rfl
      have f0 := X9.rg.frozen 0
      have z1 := X9.rg.cell (i := 1) rfl
      have f1 := X9.rg.frozen 1
      have z2 := X9.rg.cell (i := 2) rfl
      have f2 := X9.rg.frozen 2
      have z3 := X9.rg.cell (i := 3) rfl
      have f3 := X9.rg.frozen 3
      have z4 := X9.rg.cell (i := 4) rfl
      have f4 := X9.rg.frozen 4
      clear y 
      go_wp2
      (try simp only [Exit.inBlock, Exit.then])
      refine bodyPost_ret (v := .agg #[.int .i64 (ckind (TD.two kind u v)), .int .i64 (cval (TD.two kind u v)), (.slice to tn tc), .int .i64 ((TD.two kind u v)).size, .string (str (showT (TD.two kind u v)))]) ?_ rfl ?_
      · simp [results, Tryz.results224, go_sem, z0, z1, z2, z3, z4]
      · exact HF.out
  · rw [sameT_ne huv]
    by_cases hk10 : kind = 10
    · subst hk10
      have a0 := X5.ru.cell (i := 0) rfl
      have a1 := X5.ru.cell (i := 1) rfl
      have a2 := X5.ru.cell (i := 2) rfl
      have a3 := X5.ru.cell (i := 3) rfl
      have a4 := X5.ru.cell (i := 4) rfl
      have c0 := X5.rv.cell (i := 0) rfl
      have c1 := X5.rv.cell (i := 1) rfl
      have c2 := X5.rv.cell (i := 2) rfl
      have c3 := X5.rv.cell (i := 3) rfl
      have c4 := X5.rv.cell (i := 4) rfl
      have q6 := cApart_any u v (.slice uo un uc) (.slice vo vn vc) fu fv w5 (HU.out.keep X5.keep) (HV.out.keep X5.keep)
      unfold termV at q6
      go_wp2_with fail
      refine q6.mono ?_
      rintro e w6 ⟨rfl, b6⟩
      have X6 := X5.next b6
      clear q6 a0 a1 a2 a3 a4 c0 c1 c2 c3 c4 b6 X5
      cases hap : apartT u v with
      | true =>
        have hrow : restT 10 u v = tnum 0 := rest_apart huv rfl hap
        have HP' := Lib.hid (HR.out _ hrow)
        have q7 := cOfNumber_any 0 (by constructor <;> decide) w6 (HT.out.keep X6.keep)
        unfold termV at q7
        go_wp2_with fail
        refine q7.mono ?_
        rintro e w7 ⟨rfl, b7⟩
        have X7 := X6.next b7
        have p7 : PartsAt Lo w7 (tnum 0) (.slice none 0 0) := HU.out.leaf X7.keep 100 0
        clear q7 b7 X6
        have y := X7.fin p7
        have HF := Lib.hid (HP'.out _ _ y.1 y.2)
        unfold termV set5 at HF
        have z0 := X7.rg.cell (i := 0) rfl
        have f0 := X7.rg.frozen 0
        have z1 := X7.rg.cell (i := 1) rfl
        have f1 := X7.rg.frozen 1
        have z2 := X7.rg.cell (i := 2) rfl
        have f2 := X7.rg.frozen 2
        have z3 := X7.rg.cell (i := 3) rfl
        have f3 := X7.rg.frozen 3
        have z4 := X7.rg.cell (i := 4) rfl
        have f4 := X7.rg.frozen 4
        clear y 
        go_wp2
        (try simp only [Exit.inBlock, Exit.then])
        refine bodyPost_ret (v := .agg #[.int .i64 (ckind (tnum 0)), .int .i64 (cval (tnum 0)), (.slice none 0 0), .int .i64 ((tnum 0)).size, .string (str (showT (tnum 0)))]) ?_ rfl ?_
        · simp [results, Tryz.results224, go_sem, z0, z1, z2, z3, z4]
        · exact HF.out
      | false =>
        have hrow : restT 10 u v = .two 10 u v := rest_else huv (fun q => by rw [hap] at q; cases q.2)
        have HP' := Lib.hid (HR.out _ hrow)
        have a0 := X6.ru.cell (i := 0) rfl
        have a1 := X6.ru.cell (i := 1) rfl
        have a2 := X6.ru.cell (i := 2) rfl
        have a3 := X6.ru.cell (i := 3) rfl
        have a4 := X6.ru.cell (i := 4) rfl
        have c0 := X6.rv.cell (i := 0) rfl
        have c1 := X6.rv.cell (i := 1) rfl
        have c2 := X6.rv.cell (i := 2) rfl
        have c3 := X6.rv.cell (i := 3) rfl
        have c4 := X6.rv.cell (i := 4) rfl
        have q9 := fun P => cOfTwo_cps 10 (by omega) u v (.slice uo un uc) (.slice vo vn vc) w6 (HU.out.keep X6.keep) (HV.out.keep X6.keep) fu fv (by omega) (by omega) P
        unfold termV at q9
        go_wp2_with fail
        refine q9 _ ?_
        intro pt w9 p9 b9
        have X9 := X6.next b9
        obtain ⟨to, tn, tc, rfl⟩ := p9.slice
        clear q9 a0 a1 a2 a3 a4 c0 c1 c2 c3 c4
        have y := X9.fin p9
        have HF := Lib.hid (HP'.out _ _ y.1 y.2)
        unfold termV set5 at HF
        have z0 := X9.rg.cell (i := 0) rfl
        have f0 := X9.rg.frozen 0
        have z1 := X9.rg.cell (i := 1) rfl
        have f1 := X9.rg.frozen 1
        have z2 := X9.rg.cell (i := 2) rfl
        have f2 := X9.rg.frozen 2
        have z3 := X9.rg.cell (i := 3) rfl
        have f3 := X9.rg.frozen 3
        have z4 := X9.rg.cell (i := 4) rfl
        have f4 := X9.rg.frozen 4
        clear y 
        go_wp2
        (try simp only [Exit.inBlock, Exit.then])
        refine bodyPost_ret (v := .agg #[.int .i64 (ckind (TD.two 10 u v)), .int .i64 (cval (TD.two 10 u v)), (.slice to tn tc), .int .i64 ((TD.two 10 u v)).size, .string (str (showT (TD.two 10 u v)))]) ?_ rfl ?_
        · simp [results, Tryz.results224, go_sem, z0, z1, z2, z3, z4]
        · exact HF.out
    · have hrow : restT kind u v = .two kind u v := rest_else huv (fun q => hk10 q.1)
      have HP' := Lib.hid (HR.out _ hrow)
      have hk3 : (kind == 10) = false := by simp [hk10]
      have a0 := X5.ru.cell (i := 0) rfl
      have a1 := X5.ru.cell (i := 1) rfl
      have a2 := X5.ru.cell (i := 2) rfl
      have a3 := X5.ru.cell (i := 3) rfl
      have a4 := X5.ru.cell (i := 4) rfl
      have c0 := X5.rv.cell (i := 0) rfl
      have c1 := X5.rv.cell (i := 1) rfl
      have c2 := X5.rv.cell (i := 2) rfl
      have c3 := X5.rv.cell (i := 3) rfl
      have c4 := X5.rv.cell (i := 4) rfl
      have q9 := fun P => cOfTwo_cps kind ⟨hk.1, by omega⟩ u v (.slice uo un uc) (.slice vo vn vc) w5 (HU.out.keep X5.keep) (HV.out.keep X5.keep) fu fv (by omega) (by omega) P
      unfold termV at q9
      go_wp2_with fail
      refine q9 _ ?_
      intro pt w9 p9 b9
      have X9 := X5.next b9
      obtain ⟨to, tn, tc, rfl⟩ := p9.slice
      clear q9 a0 a1 a2 a3 a4 c0 c1 c2 c3 c4
      have y := X9.fin p9
      have HF := Lib.hid (HP'.out _ _ y.1 y.2)
      unfold termV set5 at HF
      have z0 := X9.rg.cell (i := 0) rfl
      have f0 := X9.rg.frozen 0
      have z1 := X9.rg.cell (i := 1) rfl
      have f1 := X9.rg.frozen 1
      have z2 := X9.rg.cell (i := 2) rfl
      have f2 := X9.rg.frozen 2
      have z3 := X9.rg.cell (i := 3) rfl
      have f3 := X9.rg.frozen 3
      have z4 := X9.rg.cell (i := 4) rfl
      have f4 := X9.rg.frozen 4
      clear y 
      go_wp2
      (try simp only [Exit.inBlock, Exit.then])
      refine bodyPost_ret (v := .agg #[.int .i64 (ckind (TD.two kind u v)), .int .i64 (cval (TD.two kind u v)), (.slice to tn tc), .int .i64 ((TD.two kind u v)).size, .string (str (showT (TD.two kind u v)))]) ?_ rfl ?_
      · simp [results, Tryz.results224, go_sem, z0, z1, z2, z3, z4]
      · exact HF.out


set_option maxRecDepth 100000 in
set_option maxHeartbeats 4000000 in
theorem cInOrder_some {Lo : Nat} (kind : Int) (hk : 3 ≤ kind ∧ kind ≤ 11) (u v : TD) (uo vo : Option Addr) (un uc vn vc : Nat) (w : World) (hu : PartsAt Lo w u (.slice uo un uc)) (hv : PartsAt Lo w v (.slice vo vn vc)) (fu : u.fine) (fv : v.fine) (su : u.size ≤ 1000000000) (sv : v.size ≤ 1000000000) (ht : TabW w) (n : Int) (hn : v.isNum = some n) (HW : WithC kind u) (Post : Ending → World → Prop)
    (hp : ∀ ps w', PartsAt Lo w' (rowT kind u v) ps → Below w.heap.size w w' → Post (.returned (termV (rowT kind u v) ps)) w') :
    Calls Tryz.prog 224 #[.int .i64 kind, termV u (.slice uo un uc), termV v (.slice vo vn vc)] w Post := by
  have X0 := Box2.start w u v (.slice uo un uc) (.slice vo vn vc)
  have q1 := cNumber_some hn (.slice vo vn vc) (((w.alloc (.cells #[.int .i64 (ckind u), .int .i64 (cval u), (.slice uo un uc), .int .i64 u.size, .string (str (showT u))] 179)).alloc (.cells #[.int .i64 (ckind v), .int .i64 (cval v), (.slice vo vn vc), .int .i64 v.size, .string (str (showT v))] 179)).alloc (.cells #[.int .i64 0, .int .i64 0, .slice none 0 0, .int .i64 0, .string ⟨#[]⟩] 179))
  have hw64 : W64 n := isNum_fine hn fv
  have HX := Lib.hid X0
  have HU := Lib.hid hu
  have HV := Lib.hid hv
  have HT := Lib.hid ht
  have HS : Hid (∀ t, besideT kind u n = some t → ∀ ps w', PartsAt Lo w' t ps → Below w.heap.size w w' → Post (.returned (termV t ps)) w') := fun t e => by
    rw [row_some (show v.isNum.bind (besideT kind u) = some t by rw [hn]; exact e)] at hp; exact hp
  have HR0 : Hid (besideT kind u n = none → ∀ t, restT kind u v = t → ∀ ps w', PartsAt Lo w' t ps → Below w.heap.size w w' → Post (.returned (termV t ps)) w') := fun e t et => by
    rw [row_rest (show v.isNum.bind (besideT kind u) = none by rw [hn]; exact e)] at hp; subst et; exact hp
  have HN := Lib.hid hn
  unfold termV at q1 ⊢
  clear X0 hu hv ht hp hn
  go_enter Tryz.func224, Tryz.ntmps224
  go_wp2_with fail
  refine q1.mono ?_
  rintro e w1 ⟨rfl, b1⟩
  have X := HX.out.next b1
  have q2 := fun P => HW (.slice uo un uc) n w1 P (HU.out.keep X.keep) hw64 (HT.out.keep X.keep)
  unfold termV at q2
  have a0 := X.ru.cell (i := 0) rfl
  have a1 := X.ru.cell (i := 1) rfl
  have a2 := X.ru.cell (i := 2) rfl
  have a3 := X.ru.cell (i := 3) rfl
  have a4 := X.ru.cell (i := 4) rfl
  clear q1 b1 HX HW
  go_wp2_with fail
  refine q2 _ ?_ ?_
  · intro t pt w3 he p3 b3
    have X3 := X.next b3
    obtain ⟨to, tn, tc, rfl⟩ := p3.slice
    have X4 := X3.next ((Below.refl w3.heap.size w3).alloc (Nat.le_refl _) (.cells #[.int .i64 (ckind t), .int .i64 (cval t), (.slice to tn tc), .int .i64 t.size, .string (str (showT t))] 179))
    have p4 := p3.keep ((Below.refl w3.heap.size w3).alloc (Nat.le_refl _) (.cells #[.int .i64 (ckind t), .int .i64 (cval t), (.slice to tn tc), .int .i64 t.size, .string (str (showT t))] 179))
    have HP' := Lib.hid (HS.out t he)
    clear q2 a0 a1 a2 a3 a4 b3 p3 X3 X he
    have y := X4.fin p4
    have HF := Lib.hid (HP'.out _ _ y.1 y.2)
    unfold termV set5 at HF
    have z0 := X4.rg.cell (i := 0) rfl
    have f0 := X4.rg.frozen 0
    have z1 := X4.rg.cell (i := 1) rfl
    have f1 := X4.rg.frozen 1
    have z2 := X4.rg.cell (i := 2) rfl
    have f2 := X4.rg.frozen 2
    have z3 := X4.rg.cell (i := 3) rfl
    have f3 := X4.rg.frozen 3
    have z4 := X4.rg.cell (i := 4) rfl
    have f4 := X4.rg.frozen 4
    clear y
    go_wp2
    (try simp only [Exit.inBlock, Exit.then])
    refine bodyPost_ret (v := .agg #[.int .i64 (ckind t), .int .i64 (cval t), (.slice to tn tc), .int .i64 (t).size, .string (str (showT t))]) ?_ rfl ?_
    · simp [results, Tryz.results224, go_sem, z0, z1, z2, z3, z4]
    · exact HF.out
  · intro w3 he b3
    have Y3 := X.next b3
    have X4 := Y3.next ((Below.refl w3.heap.size w3).alloc (Nat.le_refl _) (.cells #[.int .i64 0, .int .i64 0, .slice none 0 0, .int .i64 0, .string ⟨#[]⟩] 179))
    have HR := Lib.hid (HR0.out he)
    clear q2 a0 a1 a2 a3 a4 b3 X he HR0 HS
    have a0 := fun o => (Y3.ru.alloc o).cell (i := 0) rfl
    have a1 := fun o => (Y3.ru.alloc o).cell (i := 1) rfl
    have a2 := fun o => (Y3.ru.alloc o).cell (i := 2) rfl
    have a3 := fun o => (Y3.ru.alloc o).cell (i := 3) rfl
    have a4 := fun o => (Y3.ru.alloc o).cell (i := 4) rfl
    have c0 := fun o => (Y3.rv.alloc o).cell (i := 0) rfl
    have c1 := fun o => (Y3.rv.alloc o).cell (i := 1) rfl
    have c2 := fun o => (Y3.rv.alloc o).cell (i := 2) rfl
    have c3 := fun o => (Y3.rv.alloc o).cell (i := 3) rfl
    have c4 := fun o => (Y3.rv.alloc o).cell (i := 4) rfl
    have q5 := cSame_any u v (.slice uo un uc) (.slice vo vn vc) fu fv (w3.alloc (.cells #[.int .i64 0, .int .i64 0, .slice none 0 0, .int .i64 0, .string ⟨#[]⟩] 179))
    unfold termV at q5
    go_wp2_with fail
    refine q5.mono ?_
    rintro e w5 ⟨rfl, b5⟩
    have X5 := X4.next b5
    clear q5 a0 a1 a2 a3 a4 c0 c1 c2 c3 c4 b5
    by_cases huv : u = v
    · rw [(sameT_iff u v).2 huv]
      have HUV := Lib.hid huv
      clear huv
      have a0 := X5.ru.cell (i := 0) rfl
      have a1 := X5.ru.cell (i := 1) rfl
      have a2 := X5.ru.cell (i := 2) rfl
      have a3 := X5.ru.cell (i := 3) rfl
      have a4 := X5.ru.cell (i := 4) rfl
      have q6 := fun P => cOfSame_cps kind hk u (.slice uo un uc) w5 (HU.out.keep X5.keep) (HT.out.keep X5.keep) P
      unfold termV at q6
      go_wp2_with fail
      refine q6 _ ?_ ?_
      · intro t pt w6 he p6 b6
        have X6 := X5.next b6
        obtain ⟨to, tn, tc, rfl⟩ := p6.slice
        have hrow : restT kind u v = t := by rw [rest_same HUV.out, he]; rfl
        have X7 := X6.next ((Below.refl w6.heap.size w6).alloc (Nat.le_refl _) (.cells #[.int .i64 (ckind t), .int .i64 (cval t), (.slice to tn tc), .int .i64 t.size, .string (str (showT t))] 179))
        have p7 := p6.keep ((Below.refl w6.heap.size w6).alloc (Nat.le_refl _) (.cells #[.int .i64 (ckind t), .int .i64 (cval t), (.slice to tn tc), .int .i64 t.size, .string (str (showT t))] 179))
        have HP' := Lib.hid (HR.out t hrow)
        clear q6 a0 a1 a2 a3 a4 b6 p6 X6 X5 he
        have y := X7.fin p7
        have HF := Lib.hid (HP'.out _ _ y.1 y.2)
        unfold termV set5 at HF
        have z0 := X7.rg.cell (i := 0) rfl
        have f0 := X7.rg.frozen 0
        have z1 := X7.rg.cell (i := 1) rfl
        have f1 := X7.rg.frozen 1
        have z2 := X7.rg.cell (i := 2) rfl
        have f2 := X7.rg.frozen 2
        have z3 := X7.rg.cell (i := 3) rfl
        have f3 := X7.rg.frozen 3
        have z4 := X7.rg.cell (i := 4) rfl
        have f4 := X7.rg.frozen 4
        clear y
        go_wp2
        (try simp only [Exit.inBlock, Exit.then])
        refine bodyPost_ret (v := .agg #[.int .i64 (ckind t), .int .i64 (cval t), (.slice to tn tc), .int .i64 (t).size, .string (str (showT t))]) ?_ rfl ?_
        · simp [results, Tryz.results224, go_sem, z0, z1, z2, z3, z4]
        · exact HF.out
      · intro w6 he b6
        have Y6 := X5.next b6
        have X6 := Y6.next ((Below.refl w6.heap.size w6).alloc (Nat.le_refl _) (.cells #[.int .i64 0, .int .i64 0, .slice none 0 0, .int .i64 0, .string ⟨#[]⟩] 179))
        have hk3 : (kind == 10) = false := by
          have : kind ≠ 10 := fun e => by rw [e] at he; simp [ofSameT] at he
          simp [this]
        have hrow : restT kind u v = .two kind u v := by rw [rest_same HUV.out, he]; simp only [Option.getD]; rw [if_neg (by simpa using hk3)]
        have HP' := Lib.hid (HR.out _ hrow)
        clear q6 a0 a1 a2 a3 a4 b6 X5 he
        have a0 := fun o => (Y6.ru.alloc o).cell (i := 0) rfl
        have a1 := fun o => (Y6.ru.alloc o).cell (i := 1) rfl
        have a2 := fun o => (Y6.ru.alloc o).cell (i := 2) rfl
        have a3 := fun o => (Y6.ru.alloc o).cell (i := 3) rfl
        have a4 := fun o => (Y6.ru.alloc o).cell (i := 4) rfl
        have c0 := fun o => (Y6.rv.alloc o).cell (i := 0) rfl
        have c1 := fun o => (Y6.rv.alloc o).cell (i := 1) rfl
        have c2 := fun o => (Y6.rv.alloc o).cell (i := 2) rfl
        have c3 := fun o => (Y6.rv.alloc o).cell (i := 3) rfl
        have c4 := fun o => (Y6.rv.alloc o).cell (i := 4) rfl
        have q9 := fun P => cOfTwo_cps kind ⟨hk.1, by omega⟩ u v (.slice uo un uc) (.slice vo vn vc) (w6.alloc (.cells #[.int .i64 0, .int .i64 0, .slice none 0 0, .int .i64 0, .string ⟨#[]⟩] 179)) (HU.out.keep X6.keep) (HV.out.keep X6.keep) fu fv (by omega) (by omega) P
        unfold termV at q9
        go_wp2_with fail
        refine q9 _ ?_
        intro pt w9 p9 b9
        have X9 := X6.next b9
        obtain ⟨to, tn, tc, rfl⟩ := p9.slice
        clear q9 a0 a1 a2 a3 a4 c0 c1 c2 c3 c4
        have y := X9.fin p9
        have HF := Lib.hid (HP'.out _ _ y.1 y.2)
        unfold termV set5 at HF
        have z0 := X9.rg.cell (i := 0) rfl
        have f0 := X9.rg.frozen 0
        have z1 := X9.rg.cell (i := 1) rfl
        have f1 := X9.rg.frozen 1
        have z2 := X9.rg.cell (i := 2) rfl
        have f2 := X9.rg.frozen 2
        have z3 := X9.rg.cell (i := 3) rfl
        have f3 := X9.rg.frozen 3
        have z4 := X9.rg.cell (i := 4) rfl
        have f4 := X9.rg.frozen 4
        clear y 
        go_wp2
        (try simp only [Exit.inBlock, Exit.then])
        refine bodyPost_ret (v := .agg #[.int .i64 (ckind (TD.two kind u v)), .int .i64 (cval (TD.two kind u v)), (.slice to tn tc), .int .i64 ((TD.two kind u v)).size, .string (str (showT (TD.two kind u v)))]) ?_ rfl ?_
        · simp [results, Tryz.results224, go_sem, z0, z1, z2, z3, z4]
        · exact HF.out
    · rw [sameT_ne huv]
      by_cases hk10 : kind = 10
      · subst hk10
        have a0 := X5.ru.cell (i := 0) rfl
        have a1 := X5.ru.cell (i := 1) rfl
        have a2 := X5.ru.cell (i := 2) rfl
        have a3 := X5.ru.cell (i := 3) rfl
        have a4 := X5.ru.cell (i := 4) rfl
        have c0 := X5.rv.cell (i := 0) rfl
        have c1 := X5.rv.cell (i := 1) rfl
        have c2 := X5.rv.cell (i := 2) rfl
        have c3 := X5.rv.cell (i := 3) rfl
        have c4 := X5.rv.cell (i := 4) rfl
        have q6 := cApart_any u v (.slice uo un uc) (.slice vo vn vc) fu fv w5 (HU.out.keep X5.keep) (HV.out.keep X5.keep)
        unfold termV at q6
        go_wp2_with fail
        refine q6.mono ?_
        rintro e w6 ⟨rfl, b6⟩
        have X6 := X5.next b6
        clear q6 a0 a1 a2 a3 a4 c0 c1 c2 c3 c4 b6 X5
        cases hap : apartT u v with
        | true =>
          have hrow : restT 10 u v = tnum 0 := rest_apart huv rfl hap
          have HP' := Lib.hid (HR.out _ hrow)
          have q7 := cOfNumber_any 0 (by constructor <;> decide) w6 (HT.out.keep X6.keep)
          unfold termV at q7
          go_wp2_with fail
          refine q7.mono ?_
          rintro e w7 ⟨rfl, b7⟩
          have X7 := X6.next b7
          have p7 : PartsAt Lo w7 (tnum 0) (.slice none 0 0) := HU.out.leaf X7.keep 100 0
          clear q7 b7 X6
          have y := X7.fin p7
          have HF := Lib.hid (HP'.out _ _ y.1 y.2)
          unfold termV set5 at HF
          have z0 := X7.rg.cell (i := 0) rfl
          have f0 := X7.rg.frozen 0
          have z1 := X7.rg.cell (i := 1) rfl
          have f1 := X7.rg.frozen 1
          have z2 := X7.rg.cell (i := 2) rfl
          have f2 := X7.rg.frozen 2
          have z3 := X7.rg.cell (i := 3) rfl
          have f3 := X7.rg.frozen 3
          have z4 := X7.rg.cell (i := 4) rfl
          have f4 := X7.rg.frozen 4
          clear y 
          go_wp2
          (try simp only [Exit.inBlock, Exit.then])
          refine bodyPost_ret (v := .agg #[.int .i64 (ckind (tnum 0)), .int .i64 (cval (tnum 0)), (.slice none 0 0), .int .i64 ((tnum 0)).size, .string (str (showT (tnum 0)))]) ?_ rfl ?_
          · simp [results, Tryz.results224, go_sem, z0, z1, z2, z3, z4]
          · exact HF.out
        | false =>
          have hrow : restT 10 u v = .two 10 u v := rest_else huv (fun q => by rw [hap] at q; cases q.2)
          have HP' := Lib.hid (HR.out _ hrow)
          have a0 := X6.ru.cell (i := 0) rfl
          have a1 := X6.ru.cell (i := 1) rfl
          have a2 := X6.ru.cell (i := 2) rfl
          have a3 := X6.ru.cell (i := 3) rfl
          have a4 := X6.ru.cell (i := 4) rfl
          have c0 := X6.rv.cell (i := 0) rfl
          have c1 := X6.rv.cell (i := 1) rfl
          have c2 := X6.rv.cell (i := 2) rfl
          have c3 := X6.rv.cell (i := 3) rfl
          have c4 := X6.rv.cell (i := 4) rfl
          have q9 := fun P => cOfTwo_cps 10 (by omega) u v (.slice uo un uc) (.slice vo vn vc) w6 (HU.out.keep X6.keep) (HV.out.keep X6.keep) fu fv (by omega) (by omega) P
          unfold termV at q9
          go_wp2_with fail
          refine q9 _ ?_
          intro pt w9 p9 b9
          have X9 := X6.next b9
          obtain ⟨to, tn, tc, rfl⟩ := p9.slice
          clear q9 a0 a1 a2 a3 a4 c0 c1 c2 c3 c4
          have y := X9.fin p9
          have HF := Lib.hid (HP'.out _ _ y.1 y.2)
          unfold termV set5 at HF
          have z0 := X9.rg.cell (i := 0) rfl
          have f0 := X9.rg.frozen 0
          have z1 := X9.rg.cell (i := 1) rfl
          have f1 := X9.rg.frozen 1
          have z2 := X9.rg.cell (i := 2) rfl
          have f2 := X9.rg.frozen 2
          have z3 := X9.rg.cell (i := 3) rfl
          have f3 := X9.rg.frozen 3
          have z4 := X9.rg.cell (i := 4) rfl
          have f4 := X9.rg.frozen 4
          clear y 
          go_wp2
          (try simp only [Exit.inBlock, Exit.then])
          refine bodyPost_ret (v := .agg #[.int .i64 (ckind (TD.two 10 u v)), .int .i64 (cval (TD.two 10 u v)), (.slice to tn tc), .int .i64 ((TD.two 10 u v)).size, .string (str (showT (TD.two 10 u v)))]) ?_ rfl ?_
          · simp [results, Tryz.results224, go_sem, z0, z1, z2, z3, z4]
          · exact HF.out
      · have hrow : restT kind u v = .two kind u v := rest_else huv (fun q => hk10 q.1)
        have HP' := Lib.hid (HR.out _ hrow)
        have hk3 : (kind == 10) = false := by simp [hk10]
        have a0 := X5.ru.cell (i := 0) rfl
        have a1 := X5.ru.cell (i := 1) rfl
        have a2 := X5.ru.cell (i := 2) rfl
        have a3 := X5.ru.cell (i := 3) rfl
        have a4 := X5.ru.cell (i := 4) rfl
        have c0 := X5.rv.cell (i := 0) rfl
        have c1 := X5.rv.cell (i := 1) rfl
        have c2 := X5.rv.cell (i := 2) rfl
        have c3 := X5.rv.cell (i := 3) rfl
        have c4 := X5.rv.cell (i := 4) rfl
        have q9 := fun P => cOfTwo_cps kind ⟨hk.1, by omega⟩ u v (.slice uo un uc) (.slice vo vn vc) w5 (HU.out.keep X5.keep) (HV.out.keep X5.keep) fu fv (by omega) (by omega) P
        unfold termV at q9
        go_wp2_with fail
        refine q9 _ ?_
        intro pt w9 p9 b9
        have X9 := X5.next b9
        obtain ⟨to, tn, tc, rfl⟩ := p9.slice
        clear q9 a0 a1 a2 a3 a4 c0 c1 c2 c3 c4
        have y := X9.fin p9
        have HF := Lib.hid (HP'.out _ _ y.1 y.2)
        unfold termV set5 at HF
        have z0 := X9.rg.cell (i := 0) rfl
        have f0 := X9.rg.frozen 0
        have z1 := X9.rg.cell (i := 1) rfl
        have f1 := X9.rg.frozen 1
        have z2 := X9.rg.cell (i := 2) rfl
        have f2 := X9.rg.frozen 2
        have z3 := X9.rg.cell (i := 3) rfl
        have f3 := X9.rg.frozen 3
        have z4 := X9.rg.cell (i := 4) rfl
        have f4 := X9.rg.frozen 4
        clear y 
        go_wp2
        (try simp only [Exit.inBlock, Exit.then])
        refine bodyPost_ret (v := .agg #[.int .i64 (ckind (TD.two kind u v)), .int .i64 (cval (TD.two kind u v)), (.slice to tn tc), .int .i64 ((TD.two kind u v)).size, .string (str (showT (TD.two kind u v)))]) ?_ rfl ?_
        · simp [results, Tryz.results224, go_sem, z0, z1, z2, z3, z4]
        · exact HF.out

theorem cInOrder_cps {Lo : Nat} (kind : Int) (hk : 3 ≤ kind ∧ kind ≤ 11) (u v : TD) (pu pv : Value) (w : World) (hu : PartsAt Lo w u pu) (hv : PartsAt Lo w v pv) (fu : u.fine) (fv : v.fine) (su : u.size ≤ 1000000000) (sv : v.size ≤ 1000000000) (ht : TabW w) (HW : WithC kind u) (Post : Ending → World → Prop)
    (hp : ∀ ps w', PartsAt Lo w' (rowT kind u v) ps → Below w.heap.size w w' → Post (.returned (termV (rowT kind u v) ps)) w') :
    Calls Tryz.prog 224 #[.int .i64 kind, termV u pu, termV v pv] w Post := by
  obtain ⟨uo, un, uc, rfl⟩ := hu.slice
  obtain ⟨vo, vn, vc, rfl⟩ := hv.slice
  cases hn : v.isNum with
  | some n => exact cInOrder_some kind hk u v uo vo un uc vn vc w hu hv fu fv su sv ht n hn HW Post hp
  | none =>
    rw [row_rest (isNum_bind_none hn)] at hp
    exact cInOrder_none kind hk u v uo vo un uc vn vc w hu hv fu fv su sv ht hn Post hp

end Go.Proofs.YtblhmeidbjigaabGreatDoor
