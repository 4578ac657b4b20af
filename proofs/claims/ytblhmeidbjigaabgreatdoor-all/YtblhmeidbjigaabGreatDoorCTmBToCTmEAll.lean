/- The code's terms: how they are put together, taken apart. -/
import Derived.Test.YtblhmeidbjigaabGreatDoorRows
import Derived.WalkKit
import Derived.WalkSpells
import Derived.WalkLawsBesides
import Derived.Laws.BytesArg
import Derived.Deep.QuietTactic
import Derived.BigQuiet
import Derived.Deep.RegionHeld3
import Derived.Lib.ItoaNum
import Derived.Lib.ItoaLen
import Derived.OpenShut
import Derived.Maps.AppendAt
import Derived.Shelf.Strconv.Itoa3
import Derived.Shelf.Lay
import Derived.Ground.NamesProg
import Derived.Lib.SmallJoins
import Derived.Lib.Hide
import Derived.StillTailTactics
import Derived.Test.YtblhmeidbjigaabGreatDoorACopToAItmAll

set_option linter.unusedSimpArgs false
set_option linter.unusedVariables false
namespace Go.Proofs.YtblhmeidbjigaabGreatDoor
open Go.RowKit

theorem num_V (n : Int) (ps : Value) : termV (tnum n) ps = .agg #[.int .i64 1, .int .i64 n, ps, .int .i64 1, .string (str (Lib.itoa n))] := by simp [termV, ckind, cval, tnum, TD.size, showT]

set_option maxRecDepth 100000 in
set_option maxHeartbeats 1000000 in
theorem cOfNumber_any (n : Int) (hn : W64 n) (w : World) (ht : TabW w) :
    Calls Tryz.prog 199 #[.int .i64 n] w fun e w' => e = .returned (termV (tnum n) (.slice none 0 0)) ∧ Below w.heap.size w w' := by
  have hb : Below w.heap.size w (w.alloc (.cells #[.int .i64 0, .int .i64 0, .slice none 0 0, .int .i64 0, .string ⟨#[]⟩] 179)) := (Below.refl _ _).alloc (Nat.le_refl _) _
  have r : Row (w.alloc (.cells #[.int .i64 0, .int .i64 0, .slice none 0 0, .int .i64 0, .string ⟨#[]⟩] 179)) w.heap.size 179 zT := heap_alloc_new w _
  have q := itoa_any n hn _ (ht.keep hb)
  rw [num_V]
  generalize str (Lib.itoa n) = S at *
  go_enter Tryz.func199, Tryz.ntmps199
  go_wp2_with fail
  refine q.mono ?_
  rintro e w1 ⟨rfl, hb1⟩
  have r1 := r.keep hb1
  have z0 := r1.cell (i := 0) rfl
  have z1 := r1.cell (i := 1) rfl
  have z2 := r1.cell (i := 2) rfl
  have z3 := r1.cell (i := 3) rfl
  have z4 := r1.cell (i := 4) rfl
  have f0 := r1.frozen 0
  have f1 := r1.frozen 1
  have f2 := r1.frozen 2
  have f3 := r1.frozen 3
  have f4 := r1.frozen 4
  have HF : Hid (Below w.heap.size w (set5 w1 w.heap.size (.int .i64 1) (.int .i64 n) (.slice none 0 0) (.int .i64 1) (.string S))) := set5_below (hb.trans (hb1.mono hb.size)) (Nat.le_refl _) _ _ _ _ _
  clear q hb hb1 r r1
  go_wp2
  exact bodyPost_ret (v := .agg #[.int .i64 1, .int .i64 n, .slice none 0 0, .int .i64 1, .string S]) (by simp [results, Tryz.results199, go_sem, z0, z1, z2, z3, z4]) rfl ⟨rfl, HF.out⟩

theorem letter_V (k n : Int) (c : UInt8) (hk : k = 101 ∧ c = 114 ∨ k = 102 ∧ c = 120) (ps : Value) : termV (.leaf k n) ps = .agg #[.int .i64 0, .int .i64 0, ps, .int .i64 1, .string (str [c] ++ str (Lib.itoa n))] := by
  rw [str_append]
  rcases hk with ⟨rfl, rfl⟩ | ⟨rfl, rfl⟩ <;> simp [termV, ckind, cval, TD.size, showT]

set_option maxRecDepth 100000 in
set_option maxHeartbeats 1000000 in
theorem cOfRegister_any (n : Int) (hn : W64 n) (w : World) (ht : TabW w) :
    Calls Tryz.prog 162 #[.int .i64 n] w fun e w' => e = .returned (termV (.leaf 101 n) (.slice none 0 0)) ∧ Below w.heap.size w w' := by
  have hb : Below w.heap.size w (w.alloc (.cells #[.int .i64 0, .int .i64 0, .slice none 0 0, .int .i64 0, .string ⟨#[]⟩] 179)) := (Below.refl _ _).alloc (Nat.le_refl _) _
  have r : Row (w.alloc (.cells #[.int .i64 0, .int .i64 0, .slice none 0 0, .int .i64 0, .string ⟨#[]⟩] 179)) w.heap.size 179 zT := heap_alloc_new w _
  have q := itoa_any n hn _ (ht.keep hb)
  have hz := itoa_size hn
  rw [letter_V 101 n 114 (by simp)]
  generalize str (Lib.itoa n) = S at *
  go_enter Tryz.func162, Tryz.ntmps162
  go_wp2_with fail
  refine q.mono ?_
  rintro e w1 ⟨rfl, hb1⟩
  have r1 := r.keep hb1
  have z0 := r1.cell (i := 0) rfl
  have z1 := r1.cell (i := 1) rfl
  have z2 := r1.cell (i := 2) rfl
  have z3 := r1.cell (i := 3) rfl
  have z4 := r1.cell (i := 4) rfl
  have f0 := r1.frozen 0
  have f1 := r1.frozen 1
  have f2 := r1.frozen 2
  have f3 := r1.frozen 3
  have f4 := r1.frozen 4
  have HF : Hid (Below w.heap.size w (set5 w1 w.heap.size (.int .i64 0) (.int .i64 0) (.slice none 0 0) (.int .i64 1) (.string (⟨#[114]⟩ ++ S)))) := set5_below (hb.trans (hb1.mono hb.size)) (Nat.le_refl _) _ _ _ _ _
  clear q hb hb1 r r1
  go_wp2
  exact bodyPost_ret (v := .agg #[.int .i64 0, .int .i64 0, .slice none 0 0, .int .i64 1, .string (⟨#[114]⟩ ++ S)]) (by simp [results, Tryz.results162, go_sem, z0, z1, z2, z3, z4]) rfl ⟨rfl, HF.out⟩

set_option maxRecDepth 100000 in
set_option maxHeartbeats 1000000 in
theorem cOfPlace_any (n : Int) (hn : W64 n) (w : World) (ht : TabW w) :
    Calls Tryz.prog 183 #[.int .i64 n] w fun e w' => e = .returned (termV (.leaf 102 n) (.slice none 0 0)) ∧ Below w.heap.size w w' := by
  have hb : Below w.heap.size w (w.alloc (.cells #[.int .i64 0, .int .i64 0, .slice none 0 0, .int .i64 0, .string ⟨#[]⟩] 179)) := (Below.refl _ _).alloc (Nat.le_refl _) _
  have r : Row (w.alloc (.cells #[.int .i64 0, .int .i64 0, .slice none 0 0, .int .i64 0, .string ⟨#[]⟩] 179)) w.heap.size 179 zT := heap_alloc_new w _
  have q := itoa_any n hn _ (ht.keep hb)
  have hz := itoa_size hn
  rw [letter_V 102 n 120 (by simp)]
  generalize str (Lib.itoa n) = S at *
  go_enter Tryz.func183, Tryz.ntmps183
  go_wp2_with fail
  refine q.mono ?_
  rintro e w1 ⟨rfl, hb1⟩
  have r1 := r.keep hb1
  have z0 := r1.cell (i := 0) rfl
  have z1 := r1.cell (i := 1) rfl
  have z2 := r1.cell (i := 2) rfl
  have z3 := r1.cell (i := 3) rfl
  have z4 := r1.cell (i := 4) rfl
  have f0 := r1.frozen 0
  have f1 := r1.frozen 1
  have f2 := r1.frozen 2
  have f3 := r1.frozen 3
  have f4 := r1.frozen 4
  have HF : Hid (Below w.heap.size w (set5 w1 w.heap.size (.int .i64 0) (.int .i64 0) (.slice none 0 0) (.int .i64 1) (.string (⟨#[120]⟩ ++ S)))) := set5_below (hb.trans (hb1.mono hb.size)) (Nat.le_refl _) _ _ _ _ _
  clear q hb hb1 r r1
  go_wp2
  exact bodyPost_ret (v := .agg #[.int .i64 0, .int .i64 0, .slice none 0 0, .int .i64 1, .string (⟨#[120]⟩ ++ S)]) (by simp [results, Tryz.results183, go_sem, z0, z1, z2, z3, z4]) rfl ⟨rfl, HF.out⟩

set_option maxRecDepth 100000 in
set_option maxHeartbeats 1000000 in
theorem cOfCells_any (w : World) :
    Calls Tryz.prog 184 #[] w fun e w' => e = .returned (termV (.leaf 103 0) (.slice none 0 0)) ∧ Below w.heap.size w w' := by
  have hb : Below w.heap.size w (w.alloc (.cells #[.int .i64 0, .int .i64 0, .slice none 0 0, .int .i64 1, .string ⟨#[109]⟩] 179)) := (Below.refl _ _).alloc (Nat.le_refl _) _
  have e : termV (.leaf 103 0) (.slice none 0 0) = .agg #[.int .i64 0, .int .i64 0, .slice none 0 0, .int .i64 1, .string ⟨#[109]⟩] := by
    simp [termV, ckind, cval, TD.size, showT, str]
  rw [e]
  clear e
  go_enter Tryz.func184, Tryz.ntmps184
  go_wp2
  exact bodyPost_ret (v := .agg #[.int .i64 0, .int .i64 0, .slice none 0 0, .int .i64 1, .string ⟨#[109]⟩]) (by simp [results, Tryz.results184, go_sem]) rfl ⟨rfl, hb⟩

theorem parts_two {Lo : Nat} {w : World} {k : Int} {a b : TD} {pa pb : Value} (ha : PartsAt Lo w a pa) (hb : PartsAt Lo w b pb) : PartsAt Lo (w.alloc (.cells (tcells a pa ++ tcells b pb).toArray 179)) (.two k a b) (.slice (some ⟨w.heap.size, 0, none⟩) 2 2) :=
  have hb' : Below w.heap.size w (w.alloc (.cells (tcells a pa ++ tcells b pb).toArray 179)) := (Below.refl _ _).alloc (Nat.le_refl _) _
  ⟨_, pa, pb, rfl, ha.lo, heap_alloc_new w _, ha.keep hb', hb.keep hb'⟩

theorem parts_three {Lo : Nat} {w : World} {k : Int} {a b c : TD} {pa pb pc : Value} (ha : PartsAt Lo w a pa) (hb : PartsAt Lo w b pb) (hc : PartsAt Lo w c pc) : PartsAt Lo (w.alloc (.cells (tcells a pa ++ tcells b pb ++ tcells c pc).toArray 179)) (.three k a b c) (.slice (some ⟨w.heap.size, 0, none⟩) 3 3) :=
  have hb' : Below w.heap.size w (w.alloc (.cells (tcells a pa ++ tcells b pb ++ tcells c pc).toArray 179)) := (Below.refl _ _).alloc (Nat.le_refl _) _
  ⟨_, pa, pb, pc, rfl, ha.lo, heap_alloc_new w _, ha.keep hb', hb.keep hb', hc.keep hb'⟩

/-- Two terms in boxes, and a box for what is handed back. -/
structure Box2 (w W : World) (A B G : Nat) (u v : TD) (pu pv : Value) : Prop where
  ru : Row W A 179 (tcells u pu)
  rv : Row W B 179 (tcells v pv)
  rg : Row W G 179 zT
  keep : Below w.heap.size w W
  ge : w.heap.size ≤ G
  ag : A ≠ G
  bg : B ≠ G

theorem Box2.next {w W W' : World} {A B G : Nat} {u v : TD} {pu pv : Value} (h : Box2 w W A B G u v pu pv) (hb : Below W.heap.size W W') : Box2 w W' A B G u v pu pv :=
  ⟨h.ru.keep hb, h.rv.keep hb, h.rg.keep hb, h.keep.trans (hb.mono h.keep.size), h.ge, h.ag, h.bg⟩

theorem Box2.start (w : World) (u v : TD) (pu pv : Value) : Box2 w (((w.alloc (.cells #[.int .i64 (ckind u), .int .i64 (cval u), pu, .int .i64 u.size, .string (str (showT u))] 179)).alloc (.cells #[.int .i64 (ckind v), .int .i64 (cval v), pv, .int .i64 v.size, .string (str (showT v))] 179)).alloc (.cells #[.int .i64 0, .int .i64 0, .slice none 0 0, .int .i64 0, .string ⟨#[]⟩] 179)) w.heap.size (w.heap.size + 1) (w.heap.size + 1 + 1) u v pu pv := by
  refine ⟨Row.alloc (Row.alloc (heap_alloc_new w _) _) _, Row.alloc (heap_alloc2_new w _ _) _, ?_, (((Below.refl _ _).alloc (Nat.le_refl _) _).alloc (by simp) _).alloc (by simp; omega) _, by omega, by omega, by omega⟩
  have := heap_alloc_new ((w.alloc (.cells #[.int .i64 (ckind u), .int .i64 (cval u), pu, .int .i64 u.size, .string (str (showT u))] 179)).alloc (.cells #[.int .i64 (ckind v), .int .i64 (cval v), pv, .int .i64 v.size, .string (str (showT v))] 179)) (.cells #[.int .i64 0, .int .i64 0, .slice none 0 0, .int .i64 0, .string ⟨#[]⟩] 179)
  simp only [World.size_alloc] at this
  exact this

/-- What is handed back is laid into its box. -/
theorem Box2.fin {Lo : Nat} {w W : World} {A B G : Nat} {u v : TD} {pu pv : Value} (h : Box2 w W A B G u v pu pv) {t : TD} {ps : Value} (hp : PartsAt Lo W t ps) :
    PartsAt Lo (set5 W G (.int .i64 (ckind t)) (.int .i64 (cval t)) ps (.int .i64 t.size) (.string (str (showT t)))) t ps ∧ Below w.heap.size w (set5 W G (.int .i64 (ckind t)) (.int .i64 (cval t)) ps (.int .i64 t.size) (.string (str (showT t)))) :=
  ⟨hp.on5 h.rg rfl _ _ _ _ _, set5_below h.keep h.ge _ _ _ _ _⟩

/-- Three terms in boxes, and a box for what is handed back. -/
structure Box3 (w W : World) (A B C G : Nat) (u v x : TD) (pu pv px : Value) : Prop where
  ru : Row W A 179 (tcells u pu)
  rv : Row W B 179 (tcells v pv)
  rx : Row W C 179 (tcells x px)
  rg : Row W G 179 zT
  keep : Below w.heap.size w W
  ge : w.heap.size ≤ G

theorem Box3.next {w W W' : World} {A B C G : Nat} {u v x : TD} {pu pv px : Value} (h : Box3 w W A B C G u v x pu pv px) (hb : Below W.heap.size W W') : Box3 w W' A B C G u v x pu pv px :=
  ⟨h.ru.keep hb, h.rv.keep hb, h.rx.keep hb, h.rg.keep hb, h.keep.trans (hb.mono h.keep.size), h.ge⟩

theorem Box3.start (w : World) (u v x : TD) (pu pv px : Value) : Box3 w ((((w.alloc (.cells #[.int .i64 (ckind u), .int .i64 (cval u), pu, .int .i64 u.size, .string (str (showT u))] 179)).alloc (.cells #[.int .i64 (ckind v), .int .i64 (cval v), pv, .int .i64 v.size, .string (str (showT v))] 179)).alloc (.cells #[.int .i64 (ckind x), .int .i64 (cval x), px, .int .i64 x.size, .string (str (showT x))] 179)).alloc (.cells #[.int .i64 0, .int .i64 0, .slice none 0 0, .int .i64 0, .string ⟨#[]⟩] 179)) w.heap.size (w.heap.size + 1) (w.heap.size + 1 + 1) (w.heap.size + 1 + 1 + 1) u v x pu pv px := by
  refine ⟨Row.alloc (Row.alloc (Row.alloc (heap_alloc_new w _) _) _) _, Row.alloc (Row.alloc (heap_alloc2_new w _ _) _) _, ?_, ?_, ((((Below.refl _ _).alloc (Nat.le_refl _) _).alloc (by simp) _).alloc (by simp; omega) _).alloc (by simp; omega) _, by omega⟩
  · have := heap_alloc_new ((w.alloc (.cells #[.int .i64 (ckind u), .int .i64 (cval u), pu, .int .i64 u.size, .string (str (showT u))] 179)).alloc (.cells #[.int .i64 (ckind v), .int .i64 (cval v), pv, .int .i64 v.size, .string (str (showT v))] 179)) (.cells #[.int .i64 (ckind x), .int .i64 (cval x), px, .int .i64 x.size, .string (str (showT x))] 179)
    simp only [World.size_alloc] at this
    exact Row.alloc this _
  · have := heap_alloc_new (((w.alloc (.cells #[.int .i64 (ckind u), .int .i64 (cval u), pu, .int .i64 u.size, .string (str (showT u))] 179)).alloc (.cells #[.int .i64 (ckind v), .int .i64 (cval v), pv, .int .i64 v.size, .string (str (showT v))] 179)).alloc (.cells #[.int .i64 (ckind x), .int .i64 (cval x), px, .int .i64 x.size, .string (str (showT x))] 179)) (.cells #[.int .i64 0, .int .i64 0, .slice none 0 0, .int .i64 0, .string ⟨#[]⟩] 179)
    simp only [World.size_alloc] at this
    exact this

theorem Box3.fin {Lo : Nat} {w W : World} {A B C G : Nat} {u v x : TD} {pu pv px : Value} (h : Box3 w W A B C G u v x pu pv px) {t : TD} {ps : Value} (hp : PartsAt Lo W t ps) :
    PartsAt Lo (set5 W G (.int .i64 (ckind t)) (.int .i64 (cval t)) ps (.int .i64 t.size) (.string (str (showT t)))) t ps ∧ Below w.heap.size w (set5 W G (.int .i64 (ckind t)) (.int .i64 (cval t)) ps (.int .i64 t.size) (.string (str (showT t)))) :=
  ⟨hp.on5 h.rg rfl _ _ _ _ _, set5_below h.keep h.ge _ _ _ _ _⟩

set_option maxRecDepth 100000 in
set_option maxHeartbeats 2000000 in
theorem cOfTwo_cps {Lo : Nat} (k : Int) (hk : 3 ≤ k ∧ k ≤ 12) (u v : TD) (pu pv : Value) (w : World) (hu : PartsAt Lo w u pu) (hv : PartsAt Lo w v pv) (fu : u.fine) (fv : v.fine) (su : u.size ≤ 1000000000000) (sv : v.size ≤ 1000000000000) (Post : Ending → World → Prop)
    (hp : ∀ ps w', PartsAt Lo w' (.two k u v) ps → Below w.heap.size w w' → Post (.returned (termV (.two k u v) ps)) w') :
    Calls Tryz.prog 219 #[.int .i64 k, termV u pu, termV v pv] w Post := by
  have X0 := Box2.start w u v pu pv
  have HR : Hid (_ = _) := show_two k u v
  have q3 := fun w' => cSign_any k ⟨hk.1, by omega⟩ w'
  have zs : (str [signT k]).size = 1 := rfl
  have y1 := show_size fu (by omega)
  have y2 := show_size fv (by omega)
  have es : ((TD.two k u v).size : Int) = 1 + (u.size : Int) + (v.size : Int) := by simp only [TD.size]; omega
  have HP : Hid (∀ W A B G, Box2 w W A B G u v pu pv → Post (.returned (.agg #[.int .i64 k, .int .i64 0, .slice (some ⟨W.heap.size, 0, none⟩) 2 2, .int .i64 (1 + (u.size : Int) + (v.size : Int)), .string (str (showT (.two k u v)))]))
      (set5 (W.alloc (.cells #[.int .i64 (ckind u), .int .i64 (cval u), pu, .int .i64 u.size, .string (str (showT u)), .int .i64 (ckind v), .int .i64 (cval v), pv, .int .i64 v.size, .string (str (showT v))] 179)) G (.int .i64 k) (.int .i64 0) (.slice (some ⟨W.heap.size, 0, none⟩) 2 2) (.int .i64 (1 + (u.size : Int) + (v.size : Int))) (.string (str (showT (.two k u v)))))) := by
    intro W A B G X
    have h1 := parts_two (k := k) (hu.keep X.keep) (hv.keep X.keep)
    have h2 := (X.next ((Below.refl W.heap.size W).alloc (Nat.le_refl _) (.cells (tcells u pu ++ tcells v pv).toArray 179))).fin h1
    have h3 := hp _ _ h2.1 h2.2
    unfold termV at h3
    rw [es] at h3
    exact h3
  unfold termV
  clear hp hu hv fu fv es
  go_enter Tryz.func219, Tryz.ntmps219
  generalize str [signT k] = S at *
  go_wp2
  go_quiet (exact Calls.quiet_of_same ((q3 _).mono (fun _ _ h => ⟨h.1, h.2.symm⟩)))
  generalize hq : World.drewN _ nq = W
  have X : Box2 w W w.heap.size (w.heap.size + 1) (w.heap.size + 1 + 1) u v pu pv := by rw [← hq]; exact X0.next (below_drewN (Below.refl _ _) nq)
  clear hq X0 q3
  generalize w.heap.size + 1 + 1 = G at *
  generalize w.heap.size + 1 = B at *
  generalize hA : w.heap.size = A at X ⊢
  have HF := Lib.hid (HP.out W A B G X)
  clear hA HP
  have a0 := X.ru.cell (i := 0) rfl
  have a0' := fun o => (X.ru.alloc o).cell (i := 0) rfl
  have a1 := X.ru.cell (i := 1) rfl
  have a1' := fun o => (X.ru.alloc o).cell (i := 1) rfl
  have a2 := X.ru.cell (i := 2) rfl
  have a2' := fun o => (X.ru.alloc o).cell (i := 2) rfl
  have a3 := X.ru.cell (i := 3) rfl
  have a3' := fun o => (X.ru.alloc o).cell (i := 3) rfl
  have a4 := X.ru.cell (i := 4) rfl
  have a4' := fun o => (X.ru.alloc o).cell (i := 4) rfl
  have b0 := X.rv.cell (i := 0) rfl
  have b0' := fun o => (X.rv.alloc o).cell (i := 0) rfl
  have b1 := X.rv.cell (i := 1) rfl
  have b1' := fun o => (X.rv.alloc o).cell (i := 1) rfl
  have b2 := X.rv.cell (i := 2) rfl
  have b2' := fun o => (X.rv.alloc o).cell (i := 2) rfl
  have b3 := X.rv.cell (i := 3) rfl
  have b3' := fun o => (X.rv.alloc o).cell (i := 3) rfl
  have b4 := X.rv.cell (i := 4) rfl
  have b4' := fun o => (X.rv.alloc o).cell (i := 4) rfl
  have z0 := fun o => (X.rg.alloc o).cell (i := 0) rfl
  have f0 := fun o => (X.rg.alloc o).frozen 0
  have z1 := fun o => (X.rg.alloc o).cell (i := 1) rfl
  have f1 := fun o => (X.rg.alloc o).frozen 1
  have z2 := fun o => (X.rg.alloc o).cell (i := 2) rfl
  have f2 := fun o => (X.rg.alloc o).frozen 2
  have z3 := fun o => (X.rg.alloc o).cell (i := 3) rfl
  have f3 := fun o => (X.rg.alloc o).frozen 3
  have z4 := fun o => (X.rg.alloc o).cell (i := 4) rfl
  have f4 := fun o => (X.rg.alloc o).frozen 4
  unfold set5 at HF
  clear X
  generalize str (showT (.two k u v)) = R at *
  generalize str (showT u) = X1 at *
  generalize ckind u = ku at *
  generalize cval u = nu at *
  generalize u.size = zu at *
  generalize str (showT v) = Y1 at *
  generalize ckind v = kv at *
  generalize cval v = nv at *
  generalize v.size = zv at *
  go_wp2
  rw [HR.out]
  exact bodyPost_ret (v := .agg #[.int .i64 k, .int .i64 0, .slice (some ⟨W.heap.size, 0, none⟩) 2 2, .int .i64 (1 + (zu : Int) + (zv : Int)), .string R]) (by simp [results, Tryz.results219, go_sem, z0, z1, z2, z3, z4]) rfl HF.out

set_option maxRecDepth 100000 in
set_option maxHeartbeats 2000000 in
theorem cOfThree_cps {Lo : Nat} (u v x : TD) (pu pv px : Value) (w : World) (hu : PartsAt Lo w u pu) (hv : PartsAt Lo w v pv) (hx : PartsAt Lo w x px) (fu : u.fine) (fv : v.fine) (fx : x.fine) (su : u.size ≤ 1000000000000) (sv : v.size ≤ 1000000000000) (sx : x.size ≤ 1000000000000) (Post : Ending → World → Prop)
    (hp : ∀ ps w', PartsAt Lo w' (.three 13 u v x) ps → Below w.heap.size w w' → Post (.returned (termV (.three 13 u v x) ps)) w') :
    Calls Tryz.prog 227 #[termV u pu, termV v pv, termV x px] w Post := by
  have X0 := Box3.start w u v x pu pv px
  have HR : Hid (_ = _) := show_three 13 u v x
  have q3 := fun w' => cSign_any 13 (by omega) w'
  have zs : (str [signT 13]).size = 1 := rfl
  have y1 := show_size fu (by omega)
  have y2 := show_size fv (by omega)
  have y3 := show_size fx (by omega)
  have es : ((TD.three 13 u v x).size : Int) = 1 + (u.size : Int) + (v.size : Int) + (x.size : Int) := by simp only [TD.size]; omega
  have HP : Hid (∀ W A B C G, Box3 w W A B C G u v x pu pv px → Post (.returned (.agg #[.int .i64 13, .int .i64 0, .slice (some ⟨W.heap.size, 0, none⟩) 3 3, .int .i64 (1 + (u.size : Int) + (v.size : Int) + (x.size : Int)), .string (str (showT (.three 13 u v x)))]))
      (set5 (W.alloc (.cells #[.int .i64 (ckind u), .int .i64 (cval u), pu, .int .i64 u.size, .string (str (showT u)), .int .i64 (ckind v), .int .i64 (cval v), pv, .int .i64 v.size, .string (str (showT v)), .int .i64 (ckind x), .int .i64 (cval x), px, .int .i64 x.size, .string (str (showT x))] 179)) G (.int .i64 13) (.int .i64 0) (.slice (some ⟨W.heap.size, 0, none⟩) 3 3) (.int .i64 (1 + (u.size : Int) + (v.size : Int) + (x.size : Int))) (.string (str (showT (.three 13 u v x)))))) := by
    intro W A B C G X
    have h1 := parts_three (k := 13) (hu.keep X.keep) (hv.keep X.keep) (hx.keep X.keep)
    have h2 := (X.next ((Below.refl W.heap.size W).alloc (Nat.le_refl _) (.cells (tcells u pu ++ tcells v pv ++ tcells x px).toArray 179))).fin h1
    have h3 := hp _ _ h2.1 h2.2
    unfold termV at h3
    rw [es] at h3
    exact h3
  unfold termV
  clear hp hu hv hx fu fv fx es
  go_enter Tryz.func227, Tryz.ntmps227
  generalize str [signT 13] = S at *
  go_wp2
  go_quiet (exact Calls.quiet_of_same ((q3 _).mono (fun _ _ h => ⟨h.1, h.2.symm⟩)))
  generalize hq : World.drewN _ nq = W
  have X : Box3 w W w.heap.size (w.heap.size + 1) (w.heap.size + 1 + 1) (w.heap.size + 1 + 1 + 1) u v x pu pv px := by rw [← hq]; exact X0.next (below_drewN (Below.refl _ _) nq)
  clear hq X0 q3
  generalize w.heap.size + 1 + 1 + 1 = G at *
  generalize w.heap.size + 1 + 1 = C at *
  generalize w.heap.size + 1 = B at *
  generalize hA : w.heap.size = A at X ⊢
  have HF := Lib.hid (HP.out W A B C G X)
  clear hA HP
  have a0 := X.ru.cell (i := 0) rfl
  have a0' := fun o => (X.ru.alloc o).cell (i := 0) rfl
  have a1 := X.ru.cell (i := 1) rfl
  have a1' := fun o => (X.ru.alloc o).cell (i := 1) rfl
  have a2 := X.ru.cell (i := 2) rfl
  have a2' := fun o => (X.ru.alloc o).cell (i := 2) rfl
  have a3 := X.ru.cell (i := 3) rfl
  have a3' := fun o => (X.ru.alloc o).cell (i := 3) rfl
  have a4 := X.ru.cell (i := 4) rfl
  have a4' := fun o => (X.ru.alloc o).cell (i := 4) rfl
  have b0 := X.rv.cell (i := 0) rfl
  have b0' := fun o => (X.rv.alloc o).cell (i := 0) rfl
  have b1 := X.rv.cell (i := 1) rfl
  have b1' := fun o => (X.rv.alloc o).cell (i := 1) rfl
  have b2 := X.rv.cell (i := 2) rfl
  have b2' := fun o => (X.rv.alloc o).cell (i := 2) rfl
  have b3 := X.rv.cell (i := 3) rfl
  have b3' := fun o => (X.rv.alloc o).cell (i := 3) rfl
  have b4 := X.rv.cell (i := 4) rfl
  have b4' := fun o => (X.rv.alloc o).cell (i := 4) rfl
  have c0 := X.rx.cell (i := 0) rfl
  have c0' := fun o => (X.rx.alloc o).cell (i := 0) rfl
  have c1 := X.rx.cell (i := 1) rfl
  have c1' := fun o => (X.rx.alloc o).cell (i := 1) rfl
  have c2 := X.rx.cell (i := 2) rfl
  have c2' := fun o => (X.rx.alloc o).cell (i := 2) rfl
  have c3 := X.rx.cell (i := 3) rfl
  have c3' := fun o => (X.rx.alloc o).cell (i := 3) rfl
  have c4 := X.rx.cell (i := 4) rfl
  have c4' := fun o => (X.rx.alloc o).cell (i := 4) rfl
  have z0 := fun o => (X.rg.alloc o).cell (i := 0) rfl
  have f0 := fun o => (X.rg.alloc o).frozen 0
  have z1 := fun o => (X.rg.alloc o).cell (i := 1) rfl
  have f1 := fun o => (X.rg.alloc o).frozen 1
  have z2 := fun o => (X.rg.alloc o).cell (i := 2) rfl
  have f2 := fun o => (X.rg.alloc o).frozen 2
  have z3 := fun o => (X.rg.alloc o).cell (i := 3) rfl
  have f3 := fun o => (X.rg.alloc o).frozen 3
  have z4 := fun o => (X.rg.alloc o).cell (i := 4) rfl
  have f4 := fun o => (X.rg.alloc o).frozen 4
  unfold set5 at HF
  clear X
  generalize str (showT (.three 13 u v x)) = R at *
  generalize str (showT u) = X1 at *
  generalize ckind u = ku at *
  generalize cval u = nu at *
  generalize u.size = zu at *
  generalize str (showT v) = Y1 at *
  generalize ckind v = kv at *
  generalize cval v = nv at *
  generalize v.size = zv at *
  generalize str (showT x) = Z1 at *
  generalize ckind x = kx at *
  generalize cval x = nx at *
  generalize x.size = zx at *
  go_wp2
  rw [HR.out]
  exact bodyPost_ret (v := .agg #[.int .i64 13, .int .i64 0, .slice (some ⟨W.heap.size, 0, none⟩) 3 3, .int .i64 (1 + (zu : Int) + (zv : Int) + (zx : Int)), .string R]) (by simp [results, Tryz.results227, go_sem, z0, z1, z2, z3, z4]) rfl HF.out

end Go.Proofs.YtblhmeidbjigaabGreatDoor

/- The code's terms: sum. -/
set_option linter.unusedSimpArgs false
set_option linter.unusedVariables false
namespace Go.Proofs.YtblhmeidbjigaabGreatDoor
open Go.RowKit

/-- One term in a box, and a box for what is handed back. -/
structure Box1 (w W : World) (A G : Nat) (u : TD) (pu : Value) : Prop where
  ru : Row W A 179 (tcells u pu)
  rg : Row W G 179 zT
  keep : Below w.heap.size w W
  ge : w.heap.size ≤ G

theorem Box1.next {w W W' : World} {A G : Nat} {u : TD} {pu : Value} (h : Box1 w W A G u pu) (hb : Below W.heap.size W W') : Box1 w W' A G u pu :=
  ⟨h.ru.keep hb, h.rg.keep hb, h.keep.trans (hb.mono h.keep.size), h.ge⟩

theorem Box1.start (w : World) (u : TD) (pu : Value) : Box1 w ((w.alloc (.cells #[.int .i64 (ckind u), .int .i64 (cval u), pu, .int .i64 u.size, .string (str (showT u))] 179)).alloc (.cells #[.int .i64 0, .int .i64 0, .slice none 0 0, .int .i64 0, .string ⟨#[]⟩] 179)) w.heap.size (w.heap.size + 1) u pu :=
  ⟨Row.alloc (heap_alloc_new w _) _, heap_alloc2_new w _ _, ((Below.refl _ _).alloc (Nat.le_refl _) _).alloc (by simp) _, by omega⟩

theorem Box1.fin {Lo : Nat} {w W : World} {A G : Nat} {u : TD} {pu : Value} (h : Box1 w W A G u pu) {t : TD} {ps : Value} (hp : PartsAt Lo W t ps) :
    PartsAt Lo (set5 W G (.int .i64 (ckind t)) (.int .i64 (cval t)) ps (.int .i64 t.size) (.string (str (showT t)))) t ps ∧ Below w.heap.size w (set5 W G (.int .i64 (ckind t)) (.int .i64 (cval t)) ps (.int .i64 t.size) (.string (str (showT t)))) :=
  ⟨hp.on5 h.rg rfl _ _ _ _ _, set5_below h.keep h.ge _ _ _ _ _⟩

theorem cNumber_some {t : TD} {n : Int} (h : t.isNum = some n) (ps : Value) (w : World) :
    Calls Tryz.prog 164 #[termV t ps] w fun e w' => e = .returned (.tuple #[.int .i64 n, .bool true]) ∧ Below w.heap.size w w' := by
  obtain rfl := isNum_some h
  rw [num_V]
  have := cNumber_any 1 n 1 ps (str (Lib.itoa n)) w
  simpa using this

theorem cNumber_none {t : TD} (hf : t.fine) (h : t.isNum = none) (ps : Value) (w : World) :
    Calls Tryz.prog 164 #[termV t ps] w fun e w' => e = .returned (.tuple #[.int .i64 0, .bool false]) ∧ Below w.heap.size w w' := by
  have hk := (ckind_none hf).2 h
  have := cNumber_any (ckind t) (cval t) t.size ps (str (showT t)) w
  rw [if_neg hk, show (ckind t == 1) = false by simp [hk]] at this
  exact this

theorem PartsAt.slice {Lo : Nat} {w : World} {t : TD} {ps : Value} (h : PartsAt Lo w t ps) : ∃ ao n c, ps = .slice ao n c := by
  cases t with
  | leaf k n => exact ⟨_, _, _, h.1⟩
  | two k a b => obtain ⟨g, pa, pb, e, _⟩ := h; exact ⟨_, _, _, e⟩
  | three k a b c => obtain ⟨g, pa, pb, pc, e, _⟩ := h; exact ⟨_, _, _, e⟩

theorem add_kind {u : TD} (hf : u.fine) (h : ckind u = 3) : ∃ a b, u = .two 3 a b := by
  cases u with
  | leaf k n => simp only [ckind] at h; split at h <;> omega
  | two k a b => simp only [ckind] at h; exact ⟨a, b, by rw [h]⟩
  | three k a b c => obtain ⟨q, _⟩ := hf; simp only [ckind] at h; omega

theorem ckind_store {u : TD} (hf : u.fine) : ckind u = 13 ↔ u.kind = 13 := by
  cases u with
  | leaf k n => obtain ⟨q, _⟩ := hf; simp only [ckind, TD.kind]; split <;> omega
  | two k a b => exact Iff.rfl
  | three k a b c => exact Iff.rfl

set_option maxRecDepth 100000 in
set_option maxHeartbeats 2000000 in
theorem cSum_off (u : TD) (pu : Value) (w : World) (hk : ckind u ≠ 3) (Post : Ending → World → Prop)
    (h2 : ∀ w', Below w.heap.size w w' → Post (.returned (.tuple #[.agg #[.int .i64 0, .int .i64 0, .slice none 0 0, .int .i64 0, .string ⟨#[]⟩], .int .i64 0, .bool false])) w') :
    Calls Tryz.prog 231 #[termV u pu] w Post := by
  have X0 := Box1.start w u pu
  have HF := Lib.hid (h2 _ X0.keep)
  have hd : (ckind u == 3) = false := by simp [hk]
  unfold termV
  clear X0 h2
  generalize str (showT u) = X1 at *
  generalize ckind u = ku at *
  generalize cval u = nu at *
  generalize u.size = zu at *
  go_enter Tryz.func231, Tryz.ntmps231
  go_wp2
  (try simp only [Exit.inBlock, Exit.then])
  exact bodyPost_ret (v := .tuple #[.agg #[.int .i64 0, .int .i64 0, .slice none 0 0, .int .i64 0, .string ⟨#[]⟩], .int .i64 0, .bool false]) (by simp [results, Tryz.results231, go_sem]) rfl HF.out

set_option maxRecDepth 100000 in
set_option maxHeartbeats 2000000 in
theorem cSum_two {Lo : Nat} (u a b : TD) (pu : Value) (w : World) (hu : PartsAt Lo w u pu) (fu : u.fine) (he : u = .two 3 a b) (Post : Ending → World → Prop)
    (h1 : ∀ n pa w', b.isNum = some n → PartsAt Lo w' a pa → Below w.heap.size w w' → Post (.returned (.tuple #[termV a pa, .int .i64 n, .bool true])) w')
    (h2 : ∀ w', b.isNum = none → Below w.heap.size w w' → Post (.returned (.tuple #[.agg #[.int .i64 0, .int .i64 0, .slice none 0 0, .int .i64 0, .string ⟨#[]⟩], .int .i64 0, .bool false])) w') :
    Calls Tryz.prog 231 #[termV u pu] w Post := by
  have X0 := Box1.start w u pu
  obtain ⟨g, pa, pb, rfl, lg, r, ha, hb⟩ : ∃ g pa pb, pu = .slice (some ⟨g, 0, none⟩) 2 2 ∧ Lo ≤ g ∧ Row w g 179 (tcells a pa ++ tcells b pb) ∧ PartsAt Lo w a pa ∧ PartsAt Lo w b pb := by rw [he] at hu; exact hu
  have fb : b.fine := by rw [he] at fu; exact fu.2.2.2
  have hk : ckind u = 3 := by rw [he]; rfl
  have r' := r.keep X0.keep
  have c5 := r'.cell (i := 5) rfl
  have c6 := r'.cell (i := 6) rfl
  have c7 := r'.cell (i := 7) rfl
  have c8 := r'.cell (i := 8) rfl
  have c9 := r'.cell (i := 9) rfl
  have HX := Lib.hid X0
  have HR := Lib.hid r'
  have HA := Lib.hid (ha.keep X0.keep)
  obtain ⟨ao, an, ac, rfl⟩ := ha.slice
  cases hbn : b.isNum with
  | some n =>
    have qn := cNumber_some hbn pb ((w.alloc (.cells #[.int .i64 (ckind u), .int .i64 (cval u), (.slice (some ⟨g, 0, none⟩) 2 2), .int .i64 u.size, .string (str (showT u))] 179)).alloc (.cells #[.int .i64 0, .int .i64 0, .slice none 0 0, .int .i64 0, .string ⟨#[]⟩] 179))
    have HP := Lib.hid (fun pa w' => h1 n pa w' hbn)
    unfold termV at qn ⊢
    rw [hk] at HX HR HA c5 c6 c7 c8 c9 qn ⊢
    clear h1 h2 hu fu he r r' X0 ha hb hk fb hbn
    generalize str (showT b) = Y1 at *
    generalize ckind b = kb at *
    generalize cval b = nb at *
    generalize b.size = zb at *
    go_enter Tryz.func231, Tryz.ntmps231
    go_wp2_with fail
    refine qn.mono ?_
    rintro e w1 ⟨rfl, b1⟩
    have X := HX.out.next b1
    have rp := HR.out.keep b1
    have pA := HA.out.keep b1
    have c0 := rp.cell (i := 0) rfl
    have c1 := rp.cell (i := 1) rfl
    have c2 := rp.cell (i := 2) rfl
    have c3 := rp.cell (i := 3) rfl
    have c4 := rp.cell (i := 4) rfl
    have a0 := X.ru.cell (i := 0) rfl
    have a1 := X.ru.cell (i := 1) rfl
    have a2 := X.ru.cell (i := 2) rfl
    have a3 := X.ru.cell (i := 3) rfl
    have a4 := X.ru.cell (i := 4) rfl
    have z0 := X.rg.cell (i := 0) rfl
    have f0 := X.rg.frozen 0
    have z1 := X.rg.cell (i := 1) rfl
    have f1 := X.rg.frozen 1
    have z2 := X.rg.cell (i := 2) rfl
    have f2 := X.rg.frozen 2
    have z3 := X.rg.cell (i := 3) rfl
    have f3 := X.rg.frozen 3
    have z4 := X.rg.cell (i := 4) rfl
    have f4 := X.rg.frozen 4
    have y := X.fin pA
    have HF := Lib.hid (HP.out (.slice ao an ac) _ y.1 y.2)
    unfold termV set5 at HF
    clear HP y X rp pA qn b1 HX HR HA c5 c6 c7 c8 c9
    generalize str (showT a) = V1 at *
    generalize ckind a = ka at *
    generalize cval a = na at *
    generalize a.size = za at *
    go_wp2
    (try simp only [Exit.inBlock, Exit.then])
    refine bodyPost_ret (v := .tuple #[.agg #[.int .i64 ka, .int .i64 na, .slice ao an ac, .int .i64 za, .string V1], .int .i64 n, .bool true]) ?_ rfl ?_
    · simp [results, Tryz.results231, go_sem, z0, z1, z2, z3, z4]
    · exact HF.out
  | none =>
    have qn := cNumber_none fb hbn pb ((w.alloc (.cells #[.int .i64 (ckind u), .int .i64 (cval u), (.slice (some ⟨g, 0, none⟩) 2 2), .int .i64 u.size, .string (str (showT u))] 179)).alloc (.cells #[.int .i64 0, .int .i64 0, .slice none 0 0, .int .i64 0, .string ⟨#[]⟩] 179))
    have HP := Lib.hid (fun w' => h2 w' hbn)
    unfold termV at qn ⊢
    rw [hk] at HX HR HA c5 c6 c7 c8 c9 qn ⊢
    clear h1 h2 hu fu he r r' X0 ha hb hk fb hbn
    generalize str (showT b) = Y1 at *
    generalize ckind b = kb at *
    generalize cval b = nb at *
    generalize b.size = zb at *
    go_enter Tryz.func231, Tryz.ntmps231
    go_wp2_with fail
    refine qn.mono ?_
    rintro e w1 ⟨rfl, b1⟩
    have X := HX.out.next b1
    have z0 := X.rg.cell (i := 0) rfl
    have f0 := X.rg.frozen 0
    have z1 := X.rg.cell (i := 1) rfl
    have f1 := X.rg.frozen 1
    have z2 := X.rg.cell (i := 2) rfl
    have f2 := X.rg.frozen 2
    have z3 := X.rg.cell (i := 3) rfl
    have f3 := X.rg.frozen 3
    have z4 := X.rg.cell (i := 4) rfl
    have f4 := X.rg.frozen 4
    have HF := Lib.hid (HP.out _ (set5_below X.keep X.ge (.int .i64 0) (.int .i64 0) (.slice none 0 0) (.int .i64 0) (.string ⟨#[]⟩)))
    unfold set5 at HF
    clear HP X qn b1 HX HR HA c5 c6 c7 c8 c9
    go_wp2
    (try simp only [Exit.inBlock, Exit.then])
    refine bodyPost_ret (v := .tuple #[.agg #[.int .i64 0, .int .i64 0, .slice none 0 0, .int .i64 0, .string ⟨#[]⟩], .int .i64 0, .bool false]) ?_ rfl ?_
    · simp [results, Tryz.results231, go_sem, z0, z1, z2, z3, z4]
    · exact HF.out

theorem cSum_cps {Lo : Nat} (u : TD) (pu : Value) (w : World) (hu : PartsAt Lo w u pu) (fu : u.fine) (Post : Ending → World → Prop)
    (h1 : ∀ a n pa w', u.isPlus = some (a, n) → PartsAt Lo w' a pa → Below w.heap.size w w' → Post (.returned (.tuple #[termV a pa, .int .i64 n, .bool true])) w')
    (h2 : ∀ w', u.isPlus = none → Below w.heap.size w w' → Post (.returned (.tuple #[.agg #[.int .i64 0, .int .i64 0, .slice none 0 0, .int .i64 0, .string ⟨#[]⟩], .int .i64 0, .bool false])) w') :
    Calls Tryz.prog 231 #[termV u pu] w Post := by
  by_cases hk : ckind u = 3
  · obtain ⟨a, b, he⟩ := add_kind fu hk
    refine cSum_two u a b pu w hu fu he Post (fun n pa w' hn p1 p2 => h1 a n pa w' ?_ p1 p2) (fun w' hn p1 => h2 w' ?_ p1)
    · rw [he]; simp [TD.isPlus, hn]
    · rw [he]; simp [TD.isPlus, hn]
  · refine cSum_off u pu w hk Post (fun w' p1 => h2 w' ?_ p1)
    cases u with
    | leaf k n => rfl
    | two k a b => simp only [ckind] at hk; simp [TD.isPlus, hk]
    | three k a b c => rfl

end Go.Proofs.YtblhmeidbjigaabGreatDoor

/- The code's terms: store, isGreater, thingPlus, apart. -/
set_option linter.unusedSimpArgs false
set_option linter.unusedVariables false
namespace Go.Proofs.YtblhmeidbjigaabGreatDoor
open Go.RowKit

/-- One term in a box, and three boxes for what is handed back. -/
structure BoxS (w W : World) (A G1 G2 G3 : Nat) (u : TD) (pu : Value) : Prop where
  ru : Row W A 179 (tcells u pu)
  r1 : Row W G1 179 zT
  r2 : Row W G2 179 zT
  r3 : Row W G3 179 zT
  keep : Below w.heap.size w W
  g1 : w.heap.size ≤ G1
  g2 : w.heap.size ≤ G2
  g3 : w.heap.size ≤ G3
  n12 : G1 ≠ G2
  n13 : G1 ≠ G3
  n23 : G2 ≠ G3

theorem BoxS.next {w W W' : World} {A G1 G2 G3 : Nat} {u : TD} {pu : Value} (h : BoxS w W A G1 G2 G3 u pu) (hb : Below W.heap.size W W') : BoxS w W' A G1 G2 G3 u pu :=
  ⟨h.ru.keep hb, h.r1.keep hb, h.r2.keep hb, h.r3.keep hb, h.keep.trans (hb.mono h.keep.size), h.g1, h.g2, h.g3, h.n12, h.n13, h.n23⟩

theorem BoxS.start (w : World) (u : TD) (pu : Value) : BoxS w ((((w.alloc (.cells #[.int .i64 (ckind u), .int .i64 (cval u), pu, .int .i64 u.size, .string (str (showT u))] 179)).alloc (.cells #[.int .i64 0, .int .i64 0, .slice none 0 0, .int .i64 0, .string ⟨#[]⟩] 179)).alloc (.cells #[.int .i64 0, .int .i64 0, .slice none 0 0, .int .i64 0, .string ⟨#[]⟩] 179)).alloc (.cells #[.int .i64 0, .int .i64 0, .slice none 0 0, .int .i64 0, .string ⟨#[]⟩] 179)) w.heap.size (w.heap.size + 1) (w.heap.size + 1 + 1) (w.heap.size + 1 + 1 + 1) u pu := by
  refine ⟨Row.alloc (Row.alloc (Row.alloc (heap_alloc_new w _) _) _) _, Row.alloc (Row.alloc (heap_alloc2_new w _ _) _) _, ?_, ?_, ((((Below.refl _ _).alloc (Nat.le_refl _) _).alloc (by simp) _).alloc (by simp; omega) _).alloc (by simp; omega) _, by omega, by omega, by omega, by omega, by omega, by omega⟩
  · have := heap_alloc_new ((w.alloc (.cells #[.int .i64 (ckind u), .int .i64 (cval u), pu, .int .i64 u.size, .string (str (showT u))] 179)).alloc (.cells #[.int .i64 0, .int .i64 0, .slice none 0 0, .int .i64 0, .string ⟨#[]⟩] 179)) (.cells #[.int .i64 0, .int .i64 0, .slice none 0 0, .int .i64 0, .string ⟨#[]⟩] 179)
    simp only [World.size_alloc] at this
    exact Row.alloc this _
  · have := heap_alloc_new (((w.alloc (.cells #[.int .i64 (ckind u), .int .i64 (cval u), pu, .int .i64 u.size, .string (str (showT u))] 179)).alloc (.cells #[.int .i64 0, .int .i64 0, .slice none 0 0, .int .i64 0, .string ⟨#[]⟩] 179)).alloc (.cells #[.int .i64 0, .int .i64 0, .slice none 0 0, .int .i64 0, .string ⟨#[]⟩] 179)) (.cells #[.int .i64 0, .int .i64 0, .slice none 0 0, .int .i64 0, .string ⟨#[]⟩] 179)
    simp only [World.size_alloc] at this
    exact this

theorem BoxS.fin {Lo : Nat} {w W : World} {A G1 G2 G3 : Nat} {u : TD} {pu : Value} (h : BoxS w W A G1 G2 G3 u pu) (a1 a2 a3 a4 a5 b1 b2 b3 b4 b5 c1 c2 c3 c4 c5 : Value) :
    Below w.heap.size w (set5 (set5 (set5 W G1 a1 a2 a3 a4 a5) G2 b1 b2 b3 b4 b5) G3 c1 c2 c3 c4 c5) ∧ ∀ {t : TD} {ps : Value}, PartsAt Lo W t ps → PartsAt Lo (set5 (set5 (set5 W G1 a1 a2 a3 a4 a5) G2 b1 b2 b3 b4 b5) G3 c1 c2 c3 c4 c5) t ps := by
  refine ⟨set5_below (set5_below (set5_below h.keep h.g1 _ _ _ _ _) h.g2 _ _ _ _ _) h.g3 _ _ _ _ _, fun hp => ?_⟩
  have r2 := h.r2.off5 h.n12.symm a1 a2 a3 a4 a5
  have r3 := (h.r3.off5 h.n13.symm a1 a2 a3 a4 a5).off5 h.n23.symm b1 b2 b3 b4 b5
  exact ((hp.on5 h.r1 rfl _ _ _ _ _).on5 r2 rfl _ _ _ _ _).on5 r3 rfl _ _ _ _ _

set_option maxRecDepth 100000 in
set_option maxHeartbeats 2000000 in
theorem cStore_off (u : TD) (pu : Value) (w : World) (hk : ckind u ≠ 13) (Post : Ending → World → Prop)
    (h2 : ∀ w', Below w.heap.size w w' → Post (.returned (.tuple #[.agg #[.int .i64 0, .int .i64 0, .slice none 0 0, .int .i64 0, .string ⟨#[]⟩], .agg #[.int .i64 0, .int .i64 0, .slice none 0 0, .int .i64 0, .string ⟨#[]⟩], .agg #[.int .i64 0, .int .i64 0, .slice none 0 0, .int .i64 0, .string ⟨#[]⟩], .bool false])) w') :
    Calls Tryz.prog 217 #[termV u pu] w Post := by
  have X0 := BoxS.start w u pu
  have HF := Lib.hid (h2 _ X0.keep)
  have hd : (ckind u == 13) = false := by simp [hk]
  unfold termV
  clear X0 h2
  generalize str (showT u) = X1 at *
  generalize ckind u = ku at *
  generalize cval u = nu at *
  generalize u.size = zu at *
  go_enter Tryz.func217, Tryz.ntmps217
  go_wp2
  (try simp only [Exit.inBlock, Exit.then])
  refine bodyPost_ret (v := .tuple #[.agg #[.int .i64 0, .int .i64 0, .slice none 0 0, .int .i64 0, .string ⟨#[]⟩], .agg #[.int .i64 0, .int .i64 0, .slice none 0 0, .int .i64 0, .string ⟨#[]⟩], .agg #[.int .i64 0, .int .i64 0, .slice none 0 0, .int .i64 0, .string ⟨#[]⟩], .bool false]) ?_ rfl ?_
  · simp [results, Tryz.results217, go_sem, hd]
  · exact HF.out

set_option maxRecDepth 100000 in
set_option maxHeartbeats 4000000 in
theorem cStore_three {Lo : Nat} (u c a v : TD) (pu : Value) (w : World) (hu : PartsAt Lo w u pu) (he : u = .three 13 c a v) (Post : Ending → World → Prop)
    (h1 : ∀ pc pa pv w', PartsAt Lo w' c pc → PartsAt Lo w' a pa → PartsAt Lo w' v pv → Below w.heap.size w w' → Post (.returned (.tuple #[termV c pc, termV a pa, termV v pv, .bool true])) w') :
    Calls Tryz.prog 217 #[termV u pu] w Post := by
  have X0 := BoxS.start w u pu
  obtain ⟨g, pc, pa, pv, rfl, lg, r, hc, ha, hv⟩ : ∃ g pc pa pv, pu = .slice (some ⟨g, 0, none⟩) 3 3 ∧ Lo ≤ g ∧ Row w g 179 (tcells c pc ++ tcells a pa ++ tcells v pv) ∧ PartsAt Lo w c pc ∧ PartsAt Lo w a pa ∧ PartsAt Lo w v pv := by rw [he] at hu; exact hu
  have hk : ckind u = 13 := by rw [he]; rfl
  obtain ⟨co, cn, cc, rfl⟩ := hc.slice
  obtain ⟨ao, an, ac, rfl⟩ := ha.slice
  obtain ⟨vo, vn, vc, rfl⟩ := hv.slice
  have HX := Lib.hid X0
  have HR := Lib.hid r
  have HC := Lib.hid (And.intro hc (And.intro ha hv))
  unfold termV
  rw [hk] at HX ⊢
  clear hu he r X0 hc ha hv hk
  go_enter Tryz.func217, Tryz.ntmps217
  go_wp2
  generalize hW : World.alloc _ _ = W
  have X1 : BoxS w W w.heap.size (w.heap.size + 1) (w.heap.size + 1 + 1) (w.heap.size + 1 + 1 + 1) u (.slice (some ⟨g, 0, none⟩) 3 3) := by rw [← hW]; exact HX.out
  have X := X1.next ((Below.refl _ _).drew)
  have rp := HR.out.keep X1.keep
  have y := X1.fin (Lo := Lo) (.int .i64 (ckind c)) (.int .i64 (cval c)) (.slice co cn cc) (.int .i64 c.size) (.string (str (showT c))) (.int .i64 (ckind a)) (.int .i64 (cval a)) (.slice ao an ac) (.int .i64 a.size) (.string (str (showT a))) (.int .i64 (ckind v)) (.int .i64 (cval v)) (.slice vo vn vc) (.int .i64 v.size) (.string (str (showT v)))
  have bd := fun (V : World) => (Below.refl V.heap.size V).drew
  have HF := Lib.hid (h1 _ _ _ _ ((y.2 (HC.out.1.keep X1.keep)).keep (bd _)) ((y.2 (HC.out.2.1.keep X1.keep)).keep (bd _)) ((y.2 (HC.out.2.2.keep X1.keep)).keep (bd _)) y.1.drew)
  clear bd
  unfold termV set5 at HF
  have LT := (And.intro rp.lt X1.ru.lt)
  have SS : ∀ w', Keep (fun k => k = w.heap.size + 1 ∨ k = w.heap.size + 1 + 1 ∨ k = w.heap.size + 1 + 1 + 1) W w' → Row w' g 179 (tcells c (.slice co cn cc) ++ tcells a (.slice ao an ac) ++ tcells v (.slice vo vn vc)) ∧ Row w' w.heap.size 179 (tcells u (.slice (some ⟨g, 0, none⟩) 3 3)) := by
    intro w' hk
    have hg := HR.out.lt
    exact ⟨rp.same (hk.block g LT.1 (by omega)), X1.ru.same (hk.block w.heap.size LT.2 (by omega))⟩
  have d0 := fun w' hk => (SS w' hk).1.cell (i := 0) rfl
  have d1 := fun w' hk => (SS w' hk).1.cell (i := 1) rfl
  have d2 := fun w' hk => (SS w' hk).1.cell (i := 2) rfl
  have d3 := fun w' hk => (SS w' hk).1.cell (i := 3) rfl
  have d4 := fun w' hk => (SS w' hk).1.cell (i := 4) rfl
  have d5 := fun w' hk => (SS w' hk).1.cell (i := 5) rfl
  have d6 := fun w' hk => (SS w' hk).1.cell (i := 6) rfl
  have d7 := fun w' hk => (SS w' hk).1.cell (i := 7) rfl
  have d8 := fun w' hk => (SS w' hk).1.cell (i := 8) rfl
  have d9 := fun w' hk => (SS w' hk).1.cell (i := 9) rfl
  have d10 := fun w' hk => (SS w' hk).1.cell (i := 10) rfl
  have d11 := fun w' hk => (SS w' hk).1.cell (i := 11) rfl
  have d12 := fun w' hk => (SS w' hk).1.cell (i := 12) rfl
  have d13 := fun w' hk => (SS w' hk).1.cell (i := 13) rfl
  have d14 := fun w' hk => (SS w' hk).1.cell (i := 14) rfl
  have a2 := fun w' hk => (SS w' hk).2.cell (i := 2) rfl
  have x0 := X1.r1.cell (i := 0) rfl
  have f0 := X1.r1.frozen 0
  have x1 := X1.r1.cell (i := 1) rfl
  have f1 := X1.r1.frozen 1
  have x2 := X1.r1.cell (i := 2) rfl
  have f2 := X1.r1.frozen 2
  have x3 := X1.r1.cell (i := 3) rfl
  have f3 := X1.r1.frozen 3
  have x4 := X1.r1.cell (i := 4) rfl
  have f4 := X1.r1.frozen 4
  have y0 := X1.r2.cell (i := 0) rfl
  have g0 := X1.r2.frozen 0
  have y1 := X1.r2.cell (i := 1) rfl
  have g1 := X1.r2.frozen 1
  have y2 := X1.r2.cell (i := 2) rfl
  have g2 := X1.r2.frozen 2
  have y3 := X1.r2.cell (i := 3) rfl
  have g3 := X1.r2.frozen 3
  have y4 := X1.r2.cell (i := 4) rfl
  have g4 := X1.r2.frozen 4
  have z0 := X1.r3.cell (i := 0) rfl
  have q0 := X1.r3.frozen 0
  have z1 := X1.r3.cell (i := 1) rfl
  have q1 := X1.r3.frozen 1
  have z2 := X1.r3.cell (i := 2) rfl
  have q2 := X1.r3.frozen 2
  have z3 := X1.r3.cell (i := 3) rfl
  have q3 := X1.r3.frozen 3
  have z4 := X1.r3.cell (i := 4) rfl
  have q4 := X1.r3.frozen 4
  have k0 : Keep (fun k => k = w.heap.size + 1 ∨ k = w.heap.size + 1 + 1 ∨ k = w.heap.size + 1 + 1 + 1) W W.drew := (Keep.refl _ _).below ((Below.refl W.heap.size W).drew) (Nat.le_refl _)
  have kk : ∀ (V : World) (G : Nat) (a b c d e : Value), (G = w.heap.size + 1 ∨ G = w.heap.size + 1 + 1 ∨ G = w.heap.size + 1 + 1 + 1) → Keep (fun k => k = w.heap.size + 1 ∨ k = w.heap.size + 1 + 1 ∨ k = w.heap.size + 1 + 1 + 1) W V.drew → Keep (fun k => k = w.heap.size + 1 ∨ k = w.heap.size + 1 + 1 ∨ k = w.heap.size + 1 + 1 + 1) W (set5 V G a b c d e).drew := by
    intro V G a b c d e hG hk
    exact ((((hk.setCell (p := ⟨G, 0, none⟩) (.inl hG) a).setCell (p := ⟨G, 1, none⟩) (.inl hG) b).setCell (p := ⟨G, 2, none⟩) (.inl hG) c).setCell (p := ⟨G, 3, none⟩) (.inl hG) d).setCell (p := ⟨G, 4, none⟩) (.inl hG) e
  have k1 := kk W (w.heap.size + 1) (.int .i64 (ckind c)) (.int .i64 (cval c)) (.slice co cn cc) (.int .i64 c.size) (.string (str (showT c))) (.inl rfl) k0
  have k2 := kk _ (w.heap.size + 1 + 1) (.int .i64 (ckind a)) (.int .i64 (cval a)) (.slice ao an ac) (.int .i64 a.size) (.string (str (showT a))) (.inr (.inl rfl)) k1
  have k3 := kk _ (w.heap.size + 1 + 1 + 1) (.int .i64 (ckind v)) (.int .i64 (cval v)) (.slice vo vn vc) (.int .i64 v.size) (.string (str (showT v))) (.inr (.inr rfl)) k2
  unfold set5 at k1 k2 k3
  clear h1 y X X1 rp HX HR HC hW kk SS LT
  generalize str (showT c) = C1 at *
  generalize ckind c = kc at *
  generalize cval c = nc at *
  generalize c.size = zc at *
  generalize str (showT a) = A1 at *
  generalize ckind a = ka at *
  generalize cval a = na at *
  generalize a.size = za at *
  generalize str (showT v) = V1 at *
  generalize ckind v = kv at *
  generalize cval v = nv at *
  generalize v.size = zv at *
  go_region_held3 (fun w' => Keep (fun k => k = w.heap.size + 1 ∨ k = w.heap.size + 1 + 1 ∨ k = w.heap.size + 1 + 1 + 1) W w') (first | with_reducible exact k0 | with_reducible exact k1 | with_reducible exact k2 | with_reducible exact k3) (fail)
  go_wp2
  (try simp only [Exit.inBlock, Exit.then])
  refine bodyPost_ret (v := .tuple #[.agg #[.int .i64 kc, .int .i64 nc, .slice co cn cc, .int .i64 zc, .string C1], .agg #[.int .i64 ka, .int .i64 na, .slice ao an ac, .int .i64 za, .string A1], .agg #[.int .i64 kv, .int .i64 nv, .slice vo vn vc, .int .i64 zv, .string V1], .bool true]) ?_ rfl ?_
  · simp [results, Tryz.results217, go_sem, x0, x1, x2, x3, x4, y0, y1, y2, y3, y4, z0, z1, z2, z3, z4]
  · exact HF.out

end Go.Proofs.YtblhmeidbjigaabGreatDoor

/- The code's terms: isGreater, thingPlus, apart. -/
set_option linter.unusedSimpArgs false
set_option linter.unusedVariables false
namespace Go.Proofs.YtblhmeidbjigaabGreatDoor
open Go.RowKit

/-- Two terms in boxes. -/
structure Duo (w W : World) (A B : Nat) (u v : TD) (pu pv : Value) : Prop where
  ru : Row W A 179 (tcells u pu)
  rv : Row W B 179 (tcells v pv)
  keep : Below w.heap.size w W

theorem Duo.next {w W W' : World} {A B : Nat} {u v : TD} {pu pv : Value} (h : Duo w W A B u v pu pv) (hb : Below W.heap.size W W') : Duo w W' A B u v pu pv :=
  ⟨h.ru.keep hb, h.rv.keep hb, h.keep.trans (hb.mono h.keep.size)⟩

theorem Duo.start (w : World) (u v : TD) (pu pv : Value) : Duo w ((w.alloc (.cells #[.int .i64 (ckind u), .int .i64 (cval u), pu, .int .i64 u.size, .string (str (showT u))] 179)).alloc (.cells #[.int .i64 (ckind v), .int .i64 (cval v), pv, .int .i64 v.size, .string (str (showT v))] 179)) w.heap.size (w.heap.size + 1) u v pu pv :=
  ⟨Row.alloc (heap_alloc_new w _) _, heap_alloc2_new w _ _, ((Below.refl _ _).alloc (Nat.le_refl _) _).alloc (by simp) _⟩

/-- A term's number, as Number answers. -/
def numOf (t : TD) : Int := t.isNum.getD 0

theorem cNum_any {t : TD} (hf : t.fine) (ps : Value) (w : World) :
    Calls Tryz.prog 164 #[termV t ps] w fun e w' => e = .returned (.tuple #[.int .i64 (numOf t), .bool t.isNum.isSome]) ∧ Below w.heap.size w w' := by
  unfold numOf
  cases h : t.isNum with
  | some n => exact cNumber_some h ps w
  | none => exact cNumber_none hf h ps w

/-- Are both numbers, and u the greater one? -/
def grT (u v : TD) : Bool := u.isNum.isSome && v.isNum.isSome && decide (numOf v < numOf u)

set_option maxRecDepth 100000 in
set_option maxHeartbeats 2000000 in
theorem cGreater_any (u v : TD) (pu pv : Value) (fu : u.fine) (fv : v.fine) (w : World) :
    Calls Tryz.prog 228 #[termV u pu, termV v pv] w fun e w' => e = .returned (.bool (grT u v)) ∧ Below w.heap.size w w' := by
  have X0 := Duo.start w u v pu pv
  have q1 := cNum_any fu pu ((w.alloc (.cells #[.int .i64 (ckind u), .int .i64 (cval u), pu, .int .i64 u.size, .string (str (showT u))] 179)).alloc (.cells #[.int .i64 (ckind v), .int .i64 (cval v), pv, .int .i64 v.size, .string (str (showT v))] 179))
  have q2 := fun W => cNum_any fv pv W
  unfold termV at q1 q2 ⊢
  unfold grT
  have HX := Lib.hid X0
  clear X0
  generalize u.isNum.isSome = su at *
  generalize v.isNum.isSome = sv at *
  generalize numOf u = x at *
  generalize numOf v = y at *
  go_enter Tryz.func228, Tryz.ntmps228
  go_wp2_with fail
  refine q1.mono ?_
  rintro e w1 ⟨rfl, b1⟩
  have X := HX.out.next b1
  have c0 := X.rv.cell (i := 0) rfl
  have c1 := X.rv.cell (i := 1) rfl
  have c2 := X.rv.cell (i := 2) rfl
  have c3 := X.rv.cell (i := 3) rfl
  have c4 := X.rv.cell (i := 4) rfl
  have HY := Lib.hid X
  clear X q1 b1 HX
  go_wp2_with fail
  refine (q2 w1).mono ?_
  rintro e w2 ⟨rfl, b2⟩
  have HB := Lib.hid (HY.out.next b2).keep
  clear q2 b2 HY c0 c1 c2 c3 c4
  cases su with
  | false =>
    go_wp2
    go_ret
    exact ⟨rfl, HB.out⟩
  | true =>
    cases sv with
    | false =>
      go_wp2
      go_ret
      exact ⟨rfl, HB.out⟩
    | true =>
      go_wp2
      go_ret
      exact ⟨by simp, HB.out⟩

/-- The text of what a word is plus a number. -/
noncomputable def thingText (u : TD) : List UInt8 := match (thingT u).1 with | none => [] | some a => showT a

set_option maxRecDepth 100000 in
set_option maxHeartbeats 2000000 in
theorem cThing_any {Lo : Nat} (u : TD) (pu : Value) (hu0 : ∃ w0, PartsAt Lo w0 u pu) (fu : u.fine) (w : World) (hu : PartsAt Lo w u pu) :
    Calls Tryz.prog 225 #[termV u pu] w fun e w' => e = .returned (.tuple #[.string (str (thingText u)), .int .i64 (thingT u).2]) ∧ Below w.heap.size w w' := by
  have r0 : Row (w.alloc (.cells #[.int .i64 (ckind u), .int .i64 (cval u), pu, .int .i64 u.size, .string (str (showT u))] 179)) w.heap.size 179 (tcells u pu) := heap_alloc_new w _
  have b0 : Below w.heap.size w (w.alloc (.cells #[.int .i64 (ckind u), .int .i64 (cval u), pu, .int .i64 u.size, .string (str (showT u))] 179)) := (Below.refl _ _).alloc (Nat.le_refl _) _
  cases hn : u.isNum with
  | some n =>
    have q1 := cNumber_some hn pu (w.alloc (.cells #[.int .i64 (ckind u), .int .i64 (cval u), pu, .int .i64 u.size, .string (str (showT u))] 179))
    have e1 : thingT u = (none, n) := by simp [thingT, hn]
    have e2 : thingText u = [] := by simp [thingText, e1]
    rw [e1, e2]
    unfold termV at q1 ⊢
    clear hu hu0 r0
    go_enter Tryz.func225, Tryz.ntmps225
    go_wp2_with fail
    refine q1.mono ?_
    rintro e w1 ⟨rfl, b1⟩
    have HB := Lib.hid (b0.trans (b1.mono b0.size))
    clear q1 b1 b0
    go_wp2
    go_ret2
    exact ⟨rfl, HB.out⟩
  | none =>
    have q1 := cNumber_none fu hn pu (w.alloc (.cells #[.int .i64 (ckind u), .int .i64 (cval u), pu, .int .i64 u.size, .string (str (showT u))] 179))
    unfold termV at q1 ⊢
    go_enter Tryz.func225, Tryz.ntmps225
    go_wp2_with fail
    refine q1.mono ?_
    rintro e w1 ⟨rfl, b1⟩
    have r1 := r0.keep b1
    have b01 := b0.trans (b1.mono b0.size)
    have q2 := fun P => cSum_cps u pu w1 (hu.keep b01) fu P
    have c0 := r1.cell (i := 0) rfl
    have c1 := r1.cell (i := 1) rfl
    have c2 := r1.cell (i := 2) rfl
    have c3 := r1.cell (i := 3) rfl
    have c4 := r1.cell (i := 4) rfl
    unfold termV at q2
    have R1 := Lib.hid r1
    clear q1 b1 r0 r1
    go_wp2_with fail
    refine q2 _ ?_ ?_
    · intro a n pa w2 hp p2 b2
      have e1 : thingT u = (some a, n) := by simp [thingT, hn, hp]
      have e2 : thingText u = showT a := by simp [thingText, e1]
      obtain ⟨ao, an, ac, rfl⟩ := p2.slice
      have HE : Hid (str (thingText u) = str (showT a) ∧ (thingT u).2 = n) := by rw [e1, e2]; exact ⟨rfl, rfl⟩
      have HB := Lib.hid ((b01.trans (b2.mono b01.size)).alloc (by have := b01.size; have := b2.size; omega) (.cells #[.int .i64 (ckind a), .int .i64 (cval a), (.slice ao an ac), .int .i64 a.size, .string (str (showT a))] 179))
      clear q2 b2 b01 b0 p2 hp e1 e2 hu hu0 c0 c1 c2 c3 c4 R1
      generalize str (showT a) = A1 at *
      generalize ckind a = ka at *
      generalize cval a = na at *
      generalize a.size = za at *
      go_wp2
      go_ret2
      exact ⟨by rw [HE.out.1, HE.out.2]; rfl, HB.out⟩
    · intro w2 hp b2
      have e1 : thingT u = (some u, 0) := by simp [thingT, hn, hp]
      have e2 : thingText u = showT u := by simp [thingText, e1]
      have HE : Hid (str (thingText u) = str (showT u) ∧ (thingT u).2 = 0) := by rw [e1, e2]; exact ⟨rfl, rfl⟩
      have r2 := R1.out.keep b2
      have d4 := fun o => (r2.alloc o).cell (i := 4) rfl
      have HB := Lib.hid ((b01.trans (b2.mono b01.size)).alloc (by have := b01.size; have := b2.size; omega) (.cells #[.int .i64 0, .int .i64 0, .slice none 0 0, .int .i64 0, .string ⟨#[]⟩] 179))
      clear q2 b2 b01 b0 hp e1 e2 hu hu0 c0 c1 c2 c3 c4 R1 r2
      go_wp2
      go_ret2
      exact ⟨by rw [HE.out.1, HE.out.2]; rfl, HB.out⟩

theorem show_some (t : TD) : showT t ≠ [] := by
  cases t with
  | leaf k n =>
    simp only [showT]
    repeat' split
    all_goals (try simp)
    obtain ⟨c, l, e, _⟩ := itoa_head n; rw [e]; simp
  | two k a b => simp [showT]
  | three k a b c => simp [showT]

theorem thing_fine {u a : TD} (hf : u.fine) (h : (thingT u).1 = some a) : a.fine := by
  unfold thingT at h
  cases hn : u.isNum with
  | some n => rw [hn] at h; cases h
  | none =>
    rw [hn] at h
    cases hp : u.isPlus with
    | none => rw [hp] at h; cases h; exact hf
    | some p => obtain ⟨x, n⟩ := p; rw [hp] at h; cases h; obtain rfl := isPlus_some hp; exact hf.2.2.1

theorem thing_same {u v : TD} (fu : u.fine) (fv : v.fine) : ((str (thingText u)).toList == (str (thingText v)).toList) = true ↔ (thingT u).1 = (thingT v).1 := by
  simp only [str, ByteArray.toList_mk, beq_iff_eq]
  unfold thingText
  cases hu : (thingT u).1 with
  | none =>
    cases hv : (thingT v).1 with
    | none => simp
    | some b => simp; exact show_some b
  | some a =>
    cases hv : (thingT v).1 with
    | none => simp; exact show_some a
    | some b => simp; exact ⟨fun e => show_inj (thing_fine fu hu).ok (thing_fine fv hv).ok e, fun e => by rw [e]⟩

set_option maxRecDepth 100000 in
set_option maxHeartbeats 2000000 in
theorem cApart_any {Lo : Nat} (u v : TD) (pu pv : Value) (fu : u.fine) (fv : v.fine) (w : World) (hu : PartsAt Lo w u pu) (hv : PartsAt Lo w v pv) :
    Calls Tryz.prog 218 #[termV u pu, termV v pv] w fun e w' => e = .returned (.bool (apartT u v)) ∧ Below w.heap.size w w' := by
  have X0 := Duo.start w u v pu pv
  have q1 := cThing_any u pu ⟨w, hu⟩ fu ((w.alloc (.cells #[.int .i64 (ckind u), .int .i64 (cval u), pu, .int .i64 u.size, .string (str (showT u))] 179)).alloc (.cells #[.int .i64 (ckind v), .int .i64 (cval v), pv, .int .i64 v.size, .string (str (showT v))] 179)) (hu.keep X0.keep)
  have q2 := fun W hb => cThing_any v pv ⟨w, hv⟩ fv W (hv.keep hb)
  have hs := thing_same fu fv
  have HA : Hid (∀ z, ((thingT u).1 = (thingT v).1 ∧ (thingT u).2 ≠ (thingT v).2 ↔ z = true) → apartT u v = z) := by
    intro z hz
    cases z with
    | true => exact (apartT_iff u v).2 (hz.2 rfl)
    | false => exact apartT_no (fun q => by have := hz.1 q; cases this)
  have HX := Lib.hid X0
  unfold termV at q1 q2 ⊢
  clear X0 hu hv
  generalize str (thingText u) = S at *
  generalize str (thingText v) = T at *
  generalize (thingT u).2 = m at *
  generalize (thingT v).2 = n at *
  generalize (thingT u).1 = a at *
  generalize (thingT v).1 = b at *
  go_enter Tryz.func218, Tryz.ntmps218
  go_wp2_with fail
  refine q1.mono ?_
  rintro e w1 ⟨rfl, b1⟩
  have X := HX.out.next b1
  have q3 := q2 w1 X.keep
  have c0 := X.rv.cell (i := 0) rfl
  have c1 := X.rv.cell (i := 1) rfl
  have c2 := X.rv.cell (i := 2) rfl
  have c3 := X.rv.cell (i := 3) rfl
  have c4 := X.rv.cell (i := 4) rfl
  have HY := Lib.hid X
  clear X q1 q2 b1 HX
  go_wp2_with fail
  refine q3.mono ?_
  rintro e w2 ⟨rfl, b2⟩
  have HB := Lib.hid (HY.out.next b2).keep
  clear q3 b2 HY c0 c1 c2 c3 c4
  by_cases hab : a = b
  · have h1 := hs.2 hab
    by_cases hmn : m = n
    · subst hmn
      have HE := Lib.hid (HA.out false (by simp))
      clear HA hs hab
      go_wp2
      go_ret
      exact ⟨by rw [HE.out]; rfl, HB.out⟩
    · have HE := Lib.hid (HA.out true (by simp [hmn, hab]))
      have hd : (m == n) = false := by simp [hmn]
      have hd2 : decide (m = n) = false := by simp [hmn]
      clear HA hs hab
      go_wp2
      go_ret
      exact ⟨by rw [HE.out]; simp [hmn], HB.out⟩
  · have HE := Lib.hid (HA.out false (by simp [hab]))
    have h1 : (S.toList == T.toList) = false := by
      cases hx : (S.toList == T.toList) with
      | false => rfl
      | true => exact absurd (hs.1 hx) hab
    clear HA hs hab
    go_wp2
    go_ret
    exact ⟨by rw [HE.out]; rfl, HB.out⟩

end Go.Proofs.YtblhmeidbjigaabGreatDoor
