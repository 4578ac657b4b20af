/- The code's terms: store, isGreater, thingPlus, apart. -/
import Derived.Test.YtblhmeidbjigaaaGreatDoorRows
import Derived.WalkKit
import Derived.WalkSpells
import Derived.WalkLawsBesides
import Derived.Laws.BytesArg
import Derived.Deep.QuietTactic
import Derived.BigQuiet
import Derived.Deep.RegionHeld3
import Derived.Lib.ItoaNum
import Derived.Lib.ItoaLen
import Derived.OpenShut
import Derived.Maps.AppendAt
import Derived.Shelf.Strconv.Itoa3
import Derived.Shelf.Lay
import Derived.Ground.NamesProg
import Derived.Lib.SmallJoins
import Derived.Lib.Hide
import Derived.StillTailTactics
import Derived.Test.YtblhmeidbjigaaaGreatDoorTQuietToCTmCWarned

set_option linter.unusedSimpArgs false
set_option linter.unusedVariables false
namespace Go.Proofs.YtblhmeidbjigaaaGreatDoor
open Go.RowKit

/-- One term in a box, and three boxes for what is handed back. -/
structure BoxS (w W : World) (A G1 G2 G3 : Nat) (u : TD) (pu : Value) : Prop where
  ru : Row W A 119 (tcells u pu)
  r1 : Row W G1 119 zT
  r2 : Row W G2 119 zT
  r3 : Row W G3 119 zT
  keep : Below w.heap.size w W
  g1 : w.heap.size ≤ G1
  g2 : w.heap.size ≤ G2
  g3 : w.heap.size ≤ G3
  n12 : G1 ≠ G2
  n13 : G1 ≠ G3
  n23 : G2 ≠ G3

theorem BoxS.next {w W W' : World} {A G1 G2 G3 : Nat} {u : TD} {pu : Value} (h : BoxS w W A G1 G2 G3 u pu) (hb : Below W.heap.size W W') : BoxS w W' A G1 G2 G3 u pu :=
  ⟨h.ru.keep hb, h.r1.keep hb, h.r2.keep hb, h.r3.keep hb, h.keep.trans (hb.mono h.keep.size), h.g1, h.g2, h.g3, h.n12, h.n13, h.n23⟩

theorem BoxS.start (w : World) (u : TD) (pu : Value) : BoxS w ((((w.alloc (.cells #[.int .i64 (ckind u), .int .i64 (cval u), pu, .int .i64 u.size, .string (str (showT u))] 119)).alloc (.cells #[.int .i64 0, .int .i64 0, .slice none 0 0, .int .i64 0, .string ⟨#[]⟩] 119)).alloc (.cells #[.int .i64 0, .int .i64 0, .slice none 0 0, .int .i64 0, .string ⟨#[]⟩] 119)).alloc (.cells #[.int .i64 0, .int .i64 0, .slice none 0 0, .int .i64 0, .string ⟨#[]⟩] 119)) w.heap.size (w.heap.size + 1) (w.heap.size + 1 + 1) (w.heap.size + 1 + 1 + 1) u pu := by
  refine ⟨Row.alloc (Row.alloc (Row.alloc (heap_alloc_new w _) _) _) _, Row.alloc (Row.alloc (heap_alloc2_new w _ _) _) _, ?_, ?_, ((((Below.refl _ _).alloc (Nat.le_refl _) _).alloc (by simp) _).alloc (by simp; omega) _).alloc (by simp; omega) _, by omega, by omega, by omega, by omega, by omega, by omega⟩
  · have := heap_alloc_new ((w.alloc (.cells #[.int .i64 (ckind u), .int .i64 (cval u), pu, .int .i64 u.size, .string (str (showT u))] 119)).alloc (.cells #[.int .i64 0, .int .i64 0, .slice none 0 0, .int .i64 0, .string ⟨#[]⟩] 119)) (.cells #[.int .i64 0, .int .i64 0, .slice none 0 0, .int .i64 0, .string ⟨#[]⟩] 119)
    simp only [World.size_alloc] at this
    exact Row.alloc this _
  · have := heap_alloc_new (((w.alloc (.cells #[.int .i64 (ckind u), .int .i64 (cval u), pu, .int .i64 u.size, .string (str (showT u))] 119)).alloc (.cells #[.int .i64 0, .int .i64 0, .slice none 0 0, .int .i64 0, .string ⟨#[]⟩] 119)).alloc (.cells #[.int .i64 0, .int .i64 0, .slice none 0 0, .int .i64 0, .string ⟨#[]⟩] 119)) (.cells #[.int .i64 0, .int .i64 0, .slice none 0 0, .int .i64 0, .string ⟨#[]⟩] 119)
    simp only [World.size_alloc] at this
    exact this

theorem BoxS.fin {Lo : Nat} {w W : World} {A G1 G2 G3 : Nat} {u : TD} {pu : Value} (h : BoxS w W A G1 G2 G3 u pu) (a1 a2 a3 a4 a5 b1 b2 b3 b4 b5 c1 c2 c3 c4 c5 : Value) :
    Below w.heap.size w (set5 (set5 (set5 W G1 a1 a2 a3 a4 a5) G2 b1 b2 b3 b4 b5) G3 c1 c2 c3 c4 c5) ∧ ∀ {t : TD} {ps : Value}, PartsAt Lo W t ps → PartsAt Lo (set5 (set5 (set5 W G1 a1 a2 a3 a4 a5) G2 b1 b2 b3 b4 b5) G3 c1 c2 c3 c4 c5) t ps := by
  refine ⟨set5_below (set5_below (set5_below h.keep h.g1 _ _ _ _ _) h.g2 _ _ _ _ _) h.g3 _ _ _ _ _, fun hp => ?_⟩
  have r2 := h.r2.off5 h.n12.symm a1 a2 a3 a4 a5
  have r3 := (h.r3.off5 h.n13.symm a1 a2 a3 a4 a5).off5 h.n23.symm b1 b2 b3 b4 b5
  exact ((hp.on5 h.r1 rfl _ _ _ _ _).on5 r2 rfl _ _ _ _ _).on5 r3 rfl _ _ _ _ _

set_option maxRecDepth 100000 in
set_option maxHeartbeats 2000000 in
theorem cStore_off (u : TD) (pu : Value) (w : World) (hk : ckind u ≠ 13) (Post : Ending → World → Prop)
    (h2 : ∀ w', Below w.heap.size w w' → Post (.returned (.tuple #[.agg #[.int .i64 0, .int .i64 0, .slice none 0 0, .int .i64 0, .string ⟨#[]⟩], .agg #[.int .i64 0, .int .i64 0, .slice none 0 0, .int .i64 0, .string ⟨#[]⟩], .agg #[.int .i64 0, .int .i64 0, .slice none 0 0, .int .i64 0, .string ⟨#[]⟩], .bool false])) w') :
    Calls Tryz.prog 195 #[termV u pu] w Post := by
  have X0 := BoxS.start w u pu
  have HF := Lib.hid (h2 _ X0.keep)
  have hd : (ckind u == 13) = false := by simp [hk]
  unfold termV
  clear X0 h2
  generalize str (showT u) = X1 at *
  generalize ckind u = ku at *
  generalize cval u = nu at *
  generalize u.size = zu at *
  go_enter Tryz.func195, Tryz.ntmps195
  go_wp2
  (try simp only [Exit.inBlock, Exit.then])
  refine bodyPost_ret (v := .tuple #[.agg #[.int .i64 0, .int .i64 0, .slice none 0 0, .int .i64 0, .string ⟨#[]⟩], .agg #[.int .i64 0, .int .i64 0, .slice none 0 0, .int .i64 0, .string ⟨#[]⟩], .agg #[.int .i64 0, .int .i64 0, .slice none 0 0, .int .i64 0, .string ⟨#[]⟩], .bool false]) ?_ rfl ?_
  · simp [results, Tryz.results195, go_sem, hd]
  · exact HF.out

set_option maxRecDepth 100000 in
set_option maxHeartbeats 4000000 in
theorem cStore_three {Lo : Nat} (u c a v : TD) (pu : Value) (w : World) (hu : PartsAt Lo w u pu) (he : u = .three 13 c a v) (Post : Ending → World → Prop)
    (h1 : ∀ pc pa pv w', PartsAt Lo w' c pc → PartsAt Lo w' a pa → PartsAt Lo w' v pv → Below w.heap.size w w' → Post (.returned (.tuple #[termV c pc, termV a pa, termV v pv, .bool true])) w') :
    Calls Tryz.prog 195 #[termV u pu] w Post := by
  have X0 := BoxS.start w u pu
  obtain ⟨g, pc, pa, pv, rfl, lg, r, hc, ha, hv⟩ : ∃ g pc pa pv, pu = .slice (some ⟨g, 0, none⟩) 3 3 ∧ Lo ≤ g ∧ Row w g 119 (tcells c pc ++ tcells a pa ++ tcells v pv) ∧ PartsAt Lo w c pc ∧ PartsAt Lo w a pa ∧ PartsAt Lo w v pv := by rw [he] at hu; exact hu
  have hk : ckind u = 13 := by rw [he]; rfl
  obtain ⟨co, cn, cc, rfl⟩ := hc.slice
  obtain ⟨ao, an, ac, rfl⟩ := ha.slice
  obtain ⟨vo, vn, vc, rfl⟩ := hv.slice
  have HX := Lib.hid X0
  have HR := Lib.hid r
  have HC := Lib.hid (And.intro hc (And.intro ha hv))
  unfold termV
  rw [hk] at HX ⊢
  clear hu he r X0 hc ha hv hk
  go_enter Tryz.func195, Tryz.ntmps195
  go_wp2
  generalize hW : World.alloc _ _ = W
  have X1 : BoxS w W w.heap.size (w.heap.size + 1) (w.heap.size + 1 + 1) (w.heap.size + 1 + 1 + 1) u (.slice (some ⟨g, 0, none⟩) 3 3) := by rw [← hW]; exact HX.out
  have X := X1.next ((Below.refl _ _).drew)
  have rp := HR.out.keep X1.keep
  have y := X1.fin (Lo := Lo) (.int .i64 (ckind c)) (.int .i64 (cval c)) (.slice co cn cc) (.int .i64 c.size) (.string (str (showT c))) (.int .i64 (ckind a)) (.int .i64 (cval a)) (.slice ao an ac) (.int .i64 a.size) (.string (str (showT a))) (.int .i64 (ckind v)) (.int .i64 (cval v)) (.slice vo vn vc) (.int .i64 v.size) (.string (str (showT v)))
  have bd := fun (V : World) => (Below.refl V.heap.size V).drew
  have HF := Lib.hid (h1 _ _ _ _ ((y.2 (HC.out.1.keep X1.keep)).keep (bd _)) ((y.2 (HC.out.2.1.keep X1.keep)).keep (bd _)) ((y.2 (HC.out.2.2.keep X1.keep)).keep (bd _)) y.1.drew)
  clear bd
  unfold termV set5 at HF
  have LT := (And.intro rp.lt X1.ru.lt)
  have SS : ∀ w', Keep (fun k => k = w.heap.size + 1 ∨ k = w.heap.size + 1 + 1 ∨ k = w.heap.size + 1 + 1 + 1) W w' → Row w' g 119 (tcells c (.slice co cn cc) ++ tcells a (.slice ao an ac) ++ tcells v (.slice vo vn vc)) ∧ Row w' w.heap.size 119 (tcells u (.slice (some ⟨g, 0, none⟩) 3 3)) := by
    intro w' hk
    have hg := HR.out.lt
    exact ⟨rp.same (hk.block g LT.1 (by omega)), X1.ru.same (hk.block w.heap.size LT.2 (by omega))⟩
  have d0 := fun w' hk => (SS w' hk).1.cell (i := 0) rfl
  have d1 := fun w' hk => (SS w' hk).1.cell (i := 1) rfl
  have d2 := fun w' hk => (SS w' hk).1.cell (i := 2) rfl
  have d3 := fun w' hk => (SS w' hk).1.cell (i := 3) rfl
  have d4 := fun w' hk => (SS w' hk).1.cell (i := 4) rfl
  have d5 := fun w' hk => (SS w' hk).1.cell (i := 5) rfl
  have d6 := fun w' hk => (SS w' hk).1.cell (i := 6) rfl
  have d7 := fun w' hk => (SS w' hk).1.cell (i := 7) rfl
  have d8 := fun w' hk => (SS w' hk).1.cell (i := 8) rfl
  have d9 := fun w' hk => (SS w' hk).1.cell (i := 9) rfl
  have d10 := fun w' hk => (SS w' hk).1.cell (i := 10) rfl
  have d11 := fun w' hk => (SS w' hk).1.cell (i := 11) rfl
  have d12 := fun w' hk => (SS w' hk).1.cell (i := 12) rfl
  have d13 := fun w' hk => (SS w' hk).1.cell (i := 13) rfl
  have d14 := fun w' hk => (SS w' hk).1.cell (i := 14) rfl
  have a2 := fun w' hk => (SS w' hk).2.cell (i := 2) rfl
  have x0 := X1.r1.cell (i := 0) rfl
  have f0 := X1.r1.frozen 0
  have x1 := X1.r1.cell (i := 1) rfl
  have f1 := X1.r1.frozen 1
  have x2 := X1.r1.cell (i := 2) rfl
  have f2 := X1.r1.frozen 2
  have x3 := X1.r1.cell (i := 3) rfl
  have f3 := X1.r1.frozen 3
  have x4 := X1.r1.cell (i := 4) rfl
  have f4 := X1.r1.frozen 4
  have y0 := X1.r2.cell (i := 0) rfl
  have g0 := X1.r2.frozen 0
  have y1 := X1.r2.cell (i := 1) rfl
  have g1 := X1.r2.frozen 1
  have y2 := X1.r2.cell (i := 2) rfl
  have g2 := X1.r2.frozen 2
  have y3 := X1.r2.cell (i := 3) rfl
  have g3 := X1.r2.frozen 3
  have y4 := X1.r2.cell (i := 4) rfl
  have g4 := X1.r2.frozen 4
  have z0 := X1.r3.cell (i := 0) rfl
  have q0 := X1.r3.frozen 0
  have z1 := X1.r3.cell (i := 1) rfl
  have q1 := X1.r3.frozen 1
  have z2 := X1.r3.cell (i := 2) rfl
  have q2 := X1.r3.frozen 2
  have z3 := X1.r3.cell (i := 3) rfl
  have q3 := X1.r3.frozen 3
  have z4 := X1.r3.cell (i := 4) rfl
  have q4 := X1.r3.frozen 4
  have k0 : Keep (fun k => k = w.heap.size + 1 ∨ k = w.heap.size + 1 + 1 ∨ k = w.heap.size + 1 + 1 + 1) W W.drew := (Keep.refl _ _).below ((Below.refl W.heap.size W).drew) (Nat.le_refl _)
  have kk : ∀ (V : World) (G : Nat) (a b c d e : Value), (G = w.heap.size + 1 ∨ G = w.heap.size + 1 + 1 ∨ G = w.heap.size + 1 + 1 + 1) → Keep (fun k => k = w.heap.size + 1 ∨ k = w.heap.size + 1 + 1 ∨ k = w.heap.size + 1 + 1 + 1) W V.drew → Keep (fun k => k = w.heap.size + 1 ∨ k = w.heap.size + 1 + 1 ∨ k = w.heap.size + 1 + 1 + 1) W (set5 V G a b c d e).drew := by
    intro V G a b c d e hG hk
    exact ((((hk.setCell (p := ⟨G, 0, none⟩) (.inl hG) a).setCell (p := ⟨G, 1, none⟩) (.inl hG) b).setCell (p := ⟨G, 2, none⟩) (.inl hG) c).setCell (p := ⟨G, 3, none⟩) (.inl hG) d).setCell (p := ⟨G, 4, none⟩) (.inl hG) e
  have k1 := kk W (w.heap.size + 1) (.int .i64 (ckind c)) (.int .i64 (cval c)) (.slice co cn cc) (.int .i64 c.size) (.string (str (showT c))) (.inl rfl) k0
  have k2 := kk _ (w.heap.size + 1 + 1) (.int .i64 (ckind a)) (.int .i64 (cval a)) (.slice ao an ac) (.int .i64 a.size) (.string (str (showT a))) (.inr (.inl rfl)) k1
  have k3 := kk _ (w.heap.size + 1 + 1 + 1) (.int .i64 (ckind v)) (.int .i64 (cval v)) (.slice vo vn vc) (.int .i64 v.size) (.string (str (showT v))) (.inr (.inr rfl)) k2
  unfold set5 at k1 k2 k3
  clear h1 y X X1 rp HX HR HC hW kk SS LT
  generalize str (showT c) = C1 at *
  generalize ckind c = kc at *
  generalize cval c = nc at *
  generalize c.size = zc at *
  generalize str (showT a) = A1 at *
  generalize ckind a = ka at *
  generalize cval a = na at *
  generalize a.size = za at *
  generalize str (showT v) = V1 at *
  generalize ckind v = kv at *
  generalize cval v = nv at *
  generalize v.size = zv at *
  go_region_held3 (fun w' => Keep (fun k => k = w.heap.size + 1 ∨ k = w.heap.size + 1 + 1 ∨ k = w.heap.size + 1 + 1 + 1) W w') (first | with_reducible exact k0 | with_reducible exact k1 | with_reducible exact k2 | with_reducible exact k3) (fail)
  go_wp2
  (try simp only [Exit.inBlock, Exit.then])
  refine bodyPost_ret (v := .tuple #[.agg #[.int .i64 kc, .int .i64 nc, .slice co cn cc, .int .i64 zc, .string C1], .agg #[.int .i64 ka, .int .i64 na, .slice ao an ac, .int .i64 za, .string A1], .agg #[.int .i64 kv, .int .i64 nv, .slice vo vn vc, .int .i64 zv, .string V1], .bool true]) ?_ rfl ?_
  · simp [results, Tryz.results195, go_sem, x0, x1, x2, x3, x4, y0, y1, y2, y3, y4, z0, z1, z2, z3, z4]
  · exact HF.out

end Go.Proofs.YtblhmeidbjigaaaGreatDoor

/- The code's terms: isGreater, thingPlus, apart. -/
set_option linter.unusedSimpArgs false
set_option linter.unusedVariables false
namespace Go.Proofs.YtblhmeidbjigaaaGreatDoor
open Go.RowKit

/-- Two terms in boxes. -/
structure Duo (w W : World) (A B : Nat) (u v : TD) (pu pv : Value) : Prop where
  ru : Row W A 119 (tcells u pu)
  rv : Row W B 119 (tcells v pv)
  keep : Below w.heap.size w W

theorem Duo.next {w W W' : World} {A B : Nat} {u v : TD} {pu pv : Value} (h : Duo w W A B u v pu pv) (hb : Below W.heap.size W W') : Duo w W' A B u v pu pv :=
  ⟨h.ru.keep hb, h.rv.keep hb, h.keep.trans (hb.mono h.keep.size)⟩

theorem Duo.start (w : World) (u v : TD) (pu pv : Value) : Duo w ((w.alloc (.cells #[.int .i64 (ckind u), .int .i64 (cval u), pu, .int .i64 u.size, .string (str (showT u))] 119)).alloc (.cells #[.int .i64 (ckind v), .int .i64 (cval v), pv, .int .i64 v.size, .string (str (showT v))] 119)) w.heap.size (w.heap.size + 1) u v pu pv :=
  ⟨Row.alloc (heap_alloc_new w _) _, heap_alloc2_new w _ _, ((Below.refl _ _).alloc (Nat.le_refl _) _).alloc (by simp) _⟩

/-- A term's number, as Number answers. -/
def numOf (t : TD) : Int := t.isNum.getD 0

theorem cNum_any {t : TD} (hf : t.fine) (ps : Value) (w : World) :
    Calls Tryz.prog 179 #[termV t ps] w fun e w' => e = .returned (.tuple #[.int .i64 (numOf t), .bool t.isNum.isSome]) ∧ Below w.heap.size w w' := by
  unfold numOf
  cases h : t.isNum with
  | some n => exact cNumber_some h ps w
  | none => exact cNumber_none hf h ps w

/-- Are both numbers, and u the greater one? -/
def grT (u v : TD) : Bool := u.isNum.isSome && v.isNum.isSome && decide (numOf v < numOf u)

set_option maxRecDepth 100000 in
set_option maxHeartbeats 2000000 in
theorem cGreater_any (u v : TD) (pu pv : Value) (fu : u.fine) (fv : v.fine) (w : World) :
    Calls Tryz.prog 208 #[termV u pu, termV v pv] w fun e w' => e = .returned (.bool (grT u v)) ∧ Below w.heap.size w w' := by
  have X0 := Duo.start w u v pu pv
  have q1 := cNum_any fu pu ((w.alloc (.cells #[.int .i64 (ckind u), .int .i64 (cval u), pu, .int .i64 u.size, .string (str (showT u))] 119)).alloc (.cells #[.int .i64 (ckind v), .int .i64 (cval v), pv, .int .i64 v.size, .string (str (showT v))] 119))
  have q2 := fun W => cNum_any fv pv W
  unfold termV at q1 q2 ⊢
  unfold grT
  have HX := Lib.hid X0
  clear X0
  generalize u.isNum.isSome = su at *
  generalize v.isNum.isSome = sv at *
  generalize numOf u = x at *
  generalize numOf v = y at *
  go_enter Tryz.func208, Tryz.ntmps208
  go_wp2_with fail
  refine q1.mono ?_
  rintro e w1 ⟨rfl, b1⟩
  have X := HX.out.next b1
  have c0 := X.rv.cell (i := 0) rfl
  have c1 := X.rv.cell (i := 1) rfl
  have c2 := X.rv.cell (i := 2) rfl
  have c3 := X.rv.cell (i := 3) rfl
  have c4 := X.rv.cell (i := 4) rfl
  have HY := Lib.hid X
  clear X q1 b1 HX
  go_wp2_with fail
  refine (q2 w1).mono ?_
  rintro e w2 ⟨rfl, b2⟩
  have HB := Lib.hid (HY.out.next b2).keep
  clear q2 b2 HY c0 c1 c2 c3 c4
  cases su with
  | false =>
    go_wp2
    go_ret
    exact ⟨rfl, HB.out⟩
  | true =>
    cases sv with
    | false =>
      go_wp2
      go_ret
      exact ⟨rfl, HB.out⟩
    | true =>
      go_wp2
      go_ret
      exact ⟨by simp, HB.out⟩

/-- The text of what a word is plus a number. -/
noncomputable def thingText (u : TD) : List UInt8 := match (thingT u).1 with | none => [] | some a => showT a

set_option maxRecDepth 100000 in
set_option maxHeartbeats 2000000 in
theorem cThing_any {Lo : Nat} (u : TD) (pu : Value) (hu0 : ∃ w0, PartsAt Lo w0 u pu) (fu : u.fine) (w : World) (hu : PartsAt Lo w u pu) :
    Calls Tryz.prog 205 #[termV u pu] w fun e w' => e = .returned (.tuple #[.string (str (thingText u)), .int .i64 (thingT u).2]) ∧ Below w.heap.size w w' := by
  have r0 : Row (w.alloc (.cells #[.int .i64 (ckind u), .int .i64 (cval u), pu, .int .i64 u.size, .string (str (showT u))] 119)) w.heap.size 119 (tcells u pu) := heap_alloc_new w _
  have b0 : Below w.heap.size w (w.alloc (.cells #[.int .i64 (ckind u), .int .i64 (cval u), pu, .int .i64 u.size, .string (str (showT u))] 119)) := (Below.refl _ _).alloc (Nat.le_refl _) _
  cases hn : u.isNum with
  | some n =>
    have q1 := cNumber_some hn pu (w.alloc (.cells #[.int .i64 (ckind u), .int .i64 (cval u), pu, .int .i64 u.size, .string (str (showT u))] 119))
    have e1 : thingT u = (none, n) := by simp [thingT, hn]
    have e2 : thingText u = [] := by simp [thingText, e1]
    rw [e1, e2]
    unfold termV at q1 ⊢
    clear hu hu0 r0
    go_enter Tryz.func205, Tryz.ntmps205
    go_wp2_with fail
    refine q1.mono ?_
    rintro e w1 ⟨rfl, b1⟩
    have HB := Lib.hid (b0.trans (b1.mono b0.size))
    clear q1 b1 b0
    go_wp2
    go_ret2
    exact ⟨rfl, HB.out⟩
  | none =>
    have q1 := cNumber_none fu hn pu (w.alloc (.cells #[.int .i64 (ckind u), .int .i64 (cval u), pu, .int .i64 u.size, .string (str (showT u))] 119))
    unfold termV at q1 ⊢
    go_enter Tryz.func205, Tryz.ntmps205
    go_wp2_with fail
    refine q1.mono ?_
    rintro e w1 ⟨rfl, b1⟩
    have r1 := r0.keep b1
    have b01 := b0.trans (b1.mono b0.size)
    have q2 := fun P => cSum_cps u pu w1 (hu.keep b01) fu P
    have c0 := r1.cell (i := 0) rfl
    have c1 := r1.cell (i := 1) rfl
    have c2 := r1.cell (i := 2) rfl
    have c3 := r1.cell (i := 3) rfl
    have c4 := r1.cell (i := 4) rfl
    unfold termV at q2
    have R1 := Lib.hid r1
    clear q1 b1 r0 r1
    go_wp2_with fail
    refine q2 _ ?_ ?_
    · intro a n pa w2 hp p2 b2
      have e1 : thingT u = (some a, n) := by simp [thingT, hn, hp]
      have e2 : thingText u = showT a := by simp [thingText, e1]
      obtain ⟨ao, an, ac, rfl⟩ := p2.slice
      have HE : Hid (str (thingText u) = str (showT a) ∧ (thingT u).2 = n) := by rw [e1, e2]; exact ⟨rfl, rfl⟩
      have HB := Lib.hid ((b01.trans (b2.mono b01.size)).alloc (by have := b01.size; have := b2.size; omega) (.cells #[.int .i64 (ckind a), .int .i64 (cval a), (.slice ao an ac), .int .i64 a.size, .string (str (showT a))] 119))
      clear q2 b2 b01 b0 p2 hp e1 e2 hu hu0 c0 c1 c2 c3 c4 R1
      generalize str (showT a) = A1 at *
      generalize ckind a = ka at *
      generalize cval a = na at *
      generalize a.size = za at *
      go_wp2
      go_ret2
      exact ⟨by rw [HE.out.1, HE.out.2]; rfl, HB.out⟩
    · intro w2 hp b2
      have e1 : thingT u = (some u, 0) := by simp [thingT, hn, hp]
      have e2 : thingText u = showT u := by simp [thingText, e1]
      have HE : Hid (str (thingText u) = str (showT u) ∧ (thingT u).2 = 0) := by rw [e1, e2]; exact ⟨rfl, rfl⟩
      have r2 := R1.out.keep b2
      have d4 := fun o => (r2.alloc o).cell (i := 4) rfl
      have HB := Lib.hid ((b01.trans (b2.mono b01.size)).alloc (by have := b01.size; have := b2.size; omega) (.cells #[.int .i64 0, .int .i64 0, .slice none 0 0, .int .i64 0, .string ⟨#[]⟩] 119))
      clear q2 b2 b01 b0 hp e1 e2 hu hu0 c0 c1 c2 c3 c4 R1 r2
      go_wp2
      go_ret2
      exact ⟨by rw [HE.out.1, HE.out.2]; rfl, HB.out⟩

theorem show_some (t : TD) : showT t ≠ [] := by
  cases t with
  | leaf k n =>
    simp only [showT]
    repeat' split
    all_goals (try simp)
    obtain ⟨c, l, e, _⟩ := itoa_head n; rw [e]; simp
  | two k a b => simp [showT]
  | three k a b c => simp [showT]

theorem thing_fine {u a : TD} (hf : u.fine) (h : (thingT u).1 = some a) : a.fine := by
  unfold thingT at h
  cases hn : u.isNum with
  | some n => rw [hn] at h; cases h
  | none =>
    rw [hn] at h
    cases hp : u.isPlus with
    | none => rw [hp] at h; cases h; exact hf
    | some p => obtain ⟨x, n⟩ := p; rw [hp] at h; cases h; obtain rfl := isPlus_some hp; exact hf.2.2.1

theorem thing_same {u v : TD} (fu : u.fine) (fv : v.fine) : ((str (thingText u)).toList == (str (thingText v)).toList) = true ↔ (thingT u).1 = (thingT v).1 := by
  simp only [str, ByteArray.toList_mk, beq_iff_eq]
  unfold thingText
  cases hu : (thingT u).1 with
  | none =>
    cases hv : (thingT v).1 with
    | none => simp
    | some b => simp; exact show_some b
  | some a =>
    cases hv : (thingT v).1 with
    | none => simp; exact show_some a
    | some b => simp; exact ⟨fun e => show_inj (thing_fine fu hu).ok (thing_fine fv hv).ok e, fun e => by rw [e]⟩

set_option maxRecDepth 100000 in
set_option maxHeartbeats 2000000 in
theorem cApart_any {Lo : Nat} (u v : TD) (pu pv : Value) (fu : u.fine) (fv : v.fine) (w : World) (hu : PartsAt Lo w u pu) (hv : PartsAt Lo w v pv) :
    Calls Tryz.prog 196 #[termV u pu, termV v pv] w fun e w' => e = .returned (.bool (apartT u v)) ∧ Below w.heap.size w w' := by
  have X0 := Duo.start w u v pu pv
  have q1 := cThing_any u pu ⟨w, hu⟩ fu ((w.alloc (.cells #[.int .i64 (ckind u), .int .i64 (cval u), pu, .int .i64 u.size, .string (str (showT u))] 119)).alloc (.cells #[.int .i64 (ckind v), .int .i64 (cval v), pv, .int .i64 v.size, .string (str (showT v))] 119)) (hu.keep X0.keep)
  have q2 := fun W hb => cThing_any v pv ⟨w, hv⟩ fv W (hv.keep hb)
  have hs := thing_same fu fv
  have HA : Hid (∀ z, ((thingT u).1 = (thingT v).1 ∧ (thingT u).2 ≠ (thingT v).2 ↔ z = true) → apartT u v = z) := by
    intro z hz
    cases z with
    | true => exact (apartT_iff u v).2 (hz.2 rfl)
    | false => exact apartT_no (fun q => by have := hz.1 q; cases this)
  have HX := Lib.hid X0
  unfold termV at q1 q2 ⊢
  clear X0 hu hv
  generalize str (thingText u) = S at *
  generalize str (thingText v) = T at *
  generalize (thingT u).2 = m at *
  generalize (thingT v).2 = n at *
  generalize (thingT u).1 = a at *
  generalize (thingT v).1 = b at *
  go_enter Tryz.func196, Tryz.ntmps196
  go_wp2_with fail
  refine q1.mono ?_
  rintro e w1 ⟨rfl, b1⟩
  have X := HX.out.next b1
  have q3 := q2 w1 X.keep
  have c0 := X.rv.cell (i := 0) rfl
  have c1 := X.rv.cell (i := 1) rfl
  have c2 := X.rv.cell (i := 2) rfl
  have c3 := X.rv.cell (i := 3) rfl
  have c4 := X.rv.cell (i := 4) rfl
  have HY := Lib.hid X
  clear X q1 q2 b1 HX
  go_wp2_with fail
  refine q3.mono ?_
  rintro e w2 ⟨rfl, b2⟩
  have HB := Lib.hid (HY.out.next b2).keep
  clear q3 b2 HY c0 c1 c2 c3 c4
  by_cases hab : a = b
  · have h1 := hs.2 hab
    by_cases hmn : m = n
    · subst hmn
      have HE := Lib.hid (HA.out false (by simp))
      clear HA hs hab
      go_wp2
      go_ret
      exact ⟨by rw [HE.out]; rfl, HB.out⟩
    · have HE := Lib.hid (HA.out true (by simp [hmn, hab]))
      have hd : (m == n) = false := by simp [hmn]
      have hd2 : decide (m = n) = false := by simp [hmn]
      clear HA hs hab
      go_wp2
      go_ret
      exact ⟨by rw [HE.out]; simp [hmn], HB.out⟩
  · have HE := Lib.hid (HA.out false (by simp [hab]))
    have h1 : (S.toList == T.toList) = false := by
      cases hx : (S.toList == T.toList) with
      | false => rfl
      | true => exact absurd (hs.1 hx) hab
    clear HA hs hab
    go_wp2
    go_ret
    exact ⟨by rw [HE.out]; rfl, HB.out⟩

end Go.Proofs.YtblhmeidbjigaaaGreatDoor

/- The code's terms: keeps, swallows, ofSame, changePlaces. -/
set_option linter.unusedSimpArgs false
set_option linter.unusedVariables false
namespace Go.Proofs.YtblhmeidbjigaaaGreatDoor
open Go.RowKit

def keepsT (kind n : Int) : Bool := decide (((kind = 3 ∨ kind = 7 ∨ kind = 8) ∧ n = 0) ∨ ((kind = 5 ∨ kind = 11) ∧ n = 1) ∨ (kind = 6 ∧ n = -1))
def swallowsT (kind n : Int) : Bool := decide (((kind = 5 ∨ kind = 6) ∧ n = 0) ∨ (kind = 7 ∧ n = -1))

set_option maxRecDepth 100000 in
set_option maxHeartbeats 1000000 in
theorem cKeeps_any (kind n : Int) (hk : 3 ≤ kind ∧ kind ≤ 11) (w : World) : Calls Tryz.prog 212 #[.int .i64 kind, .int .i64 n] w fun e w' => e = .returned (.bool (keepsT kind n)) ∧ w = w' := by
  have h : kind = 3 ∨ kind = 4 ∨ kind = 5 ∨ kind = 6 ∨ kind = 7 ∨ kind = 8 ∨ kind = 9 ∨ kind = 10 ∨ kind = 11 := by omega
  rcases h with rfl | rfl | rfl | rfl | rfl | rfl | rfl | rfl | rfl
  all_goals
    go_enter Tryz.func212, Tryz.ntmps212
    go_wp2
    go_ret
    refine ⟨?_, rfl⟩
    first | rfl | (simp [keepsT]; done) | (by_cases h0 : n = 0 <;> by_cases h1 : n = 1 <;> by_cases h2 : n = -1 <;> simp [keepsT, h0, h1, h2] <;> omega)

set_option maxRecDepth 100000 in
set_option maxHeartbeats 1000000 in
theorem cSwallows_any (kind n : Int) (hk : 3 ≤ kind ∧ kind ≤ 11) (w : World) : Calls Tryz.prog 213 #[.int .i64 kind, .int .i64 n] w fun e w' => e = .returned (.bool (swallowsT kind n)) ∧ w = w' := by
  have h : kind = 3 ∨ kind = 4 ∨ kind = 5 ∨ kind = 6 ∨ kind = 7 ∨ kind = 8 ∨ kind = 9 ∨ kind = 10 ∨ kind = 11 := by omega
  rcases h with rfl | rfl | rfl | rfl | rfl | rfl | rfl | rfl | rfl
  all_goals
    go_enter Tryz.func213, Tryz.ntmps213
    go_wp2
    go_ret
    refine ⟨?_, rfl⟩
    first | rfl | (simp [swallowsT]; done) | (by_cases h0 : n = 0 <;> by_cases h2 : n = -1 <;> simp [swallowsT, h0, h2] <;> omega)

/-- What comes of a word and the same word. -/
def ofSameT (kind : Int) (u : TD) : Option TD := if kind = 4 ∨ kind = 8 ∨ kind = 9 then some (tnum 0) else if kind = 6 ∨ kind = 7 then some u else if kind = 10 then some (tnum 1) else none

set_option maxRecDepth 100000 in
set_option maxHeartbeats 4000000 in
theorem cOfSame_cps {Lo : Nat} (kind : Int) (hk : 3 ≤ kind ∧ kind ≤ 11) (u : TD) (pu : Value) (w : World) (hu : PartsAt Lo w u pu) (ht : TabW w) (Post : Ending → World → Prop)
    (h1 : ∀ t pt w', ofSameT kind u = some t → PartsAt Lo w' t pt → Below w.heap.size w w' → Post (.returned (.tuple #[termV t pt, .bool true])) w')
    (h2 : ∀ w', ofSameT kind u = none → Below w.heap.size w w' → Post (.returned (.tuple #[.agg #[.int .i64 0, .int .i64 0, .slice none 0 0, .int .i64 0, .string ⟨#[]⟩], .bool false])) w') :
    Calls Tryz.prog 210 #[.int .i64 kind, termV u pu] w Post := by
  have X0 := Box1.start w u pu
  have w0 : W64 0 := by constructor <;> decide
  have w1 : W64 1 := by constructor <;> decide
  have q0 := cOfNumber_any 0 w0 _ (ht.keep X0.keep)
  have q1 := cOfNumber_any 1 w1 _ (ht.keep X0.keep)
  have HX := Lib.hid X0
  have HU := Lib.hid (hu.keep X0.keep)
  obtain ⟨uo, un, uc, rfl⟩ := hu.slice
  have h : kind = 3 ∨ kind = 4 ∨ kind = 5 ∨ kind = 6 ∨ kind = 7 ∨ kind = 8 ∨ kind = 9 ∨ kind = 10 ∨ kind = 11 := by omega
  rw [num_V] at q0 q1
  unfold termV
  have e0 : ∀ n : Int, termV (tnum n) (.slice none 0 0) = .agg #[.int .i64 1, .int .i64 n, .slice none 0 0, .int .i64 1, .string (str (Lib.itoa n))] := fun n => num_V n _
  have zero : ∀ w1, ofSameT kind u = some (tnum 0) → Below ((w.alloc (.cells #[.int .i64 (ckind u), .int .i64 (cval u), (.slice uo un uc), .int .i64 u.size, .string (str (showT u))] 119)).alloc (.cells #[.int .i64 0, .int .i64 0, .slice none 0 0, .int .i64 0, .string ⟨#[]⟩] 119)).heap.size ((w.alloc (.cells #[.int .i64 (ckind u), .int .i64 (cval u), (.slice uo un uc), .int .i64 u.size, .string (str (showT u))] 119)).alloc (.cells #[.int .i64 0, .int .i64 0, .slice none 0 0, .int .i64 0, .string ⟨#[]⟩] 119)) w1 → Post (.returned (.tuple #[.agg #[.int .i64 1, .int .i64 0, .slice none 0 0, .int .i64 1, .string (str (Lib.itoa 0))], .bool true])) (set5 w1 (w.heap.size + 1) (.int .i64 1) (.int .i64 0) (.slice none 0 0) (.int .i64 1) (.string (str (Lib.itoa 0)))) := by
    intro w1 he b1
    have X := HX.out.next b1
    have y := h1 (tnum 0) (.slice none 0 0) (set5 w1 (w.heap.size + 1) (.int .i64 1) (.int .i64 0) (.slice none 0 0) (.int .i64 1) (.string (str (Lib.itoa 0)))) he (hu.leaf (set5_below X.keep X.ge _ _ _ _ _) 100 0) (set5_below X.keep X.ge _ _ _ _ _)
    rw [e0] at y; exact y
  have one : ∀ w1, ofSameT kind u = some (tnum 1) → Below ((w.alloc (.cells #[.int .i64 (ckind u), .int .i64 (cval u), (.slice uo un uc), .int .i64 u.size, .string (str (showT u))] 119)).alloc (.cells #[.int .i64 0, .int .i64 0, .slice none 0 0, .int .i64 0, .string ⟨#[]⟩] 119)).heap.size ((w.alloc (.cells #[.int .i64 (ckind u), .int .i64 (cval u), (.slice uo un uc), .int .i64 u.size, .string (str (showT u))] 119)).alloc (.cells #[.int .i64 0, .int .i64 0, .slice none 0 0, .int .i64 0, .string ⟨#[]⟩] 119)) w1 → Post (.returned (.tuple #[.agg #[.int .i64 1, .int .i64 1, .slice none 0 0, .int .i64 1, .string (str (Lib.itoa 1))], .bool true])) (set5 w1 (w.heap.size + 1) (.int .i64 1) (.int .i64 1) (.slice none 0 0) (.int .i64 1) (.string (str (Lib.itoa 1)))) := by
    intro w1 he b1
    have X := HX.out.next b1
    have y := h1 (tnum 1) (.slice none 0 0) (set5 w1 (w.heap.size + 1) (.int .i64 1) (.int .i64 1) (.slice none 0 0) (.int .i64 1) (.string (str (Lib.itoa 1)))) he (hu.leaf (set5_below X.keep X.ge _ _ _ _ _) 100 1) (set5_below X.keep X.ge _ _ _ _ _)
    rw [e0] at y; exact y
  have H0 := Lib.hid zero
  have H1 := Lib.hid one
  have HN := Lib.hid (fun he => h2 _ he X0.keep)
  have HS : Hid (ofSameT kind u = some u → Post (.returned (.tuple #[.agg #[.int .i64 (ckind u), .int .i64 (cval u), .slice uo un uc, .int .i64 u.size, .string (str (showT u))], .bool true])) ((w.alloc (.cells #[.int .i64 (ckind u), .int .i64 (cval u), (.slice uo un uc), .int .i64 u.size, .string (str (showT u))] 119)).alloc (.cells #[.int .i64 (ckind u), .int .i64 (cval u), (.slice uo un uc), .int .i64 u.size, .string (str (showT u))] 119))) := by
    intro he
    exact h1 u (.slice uo un uc) _ he (hu.keep (((Below.refl _ _).alloc (Nat.le_refl _) _).alloc (by simp) _)) (((Below.refl _ _).alloc (Nat.le_refl _) _).alloc (by simp) _)
  clear h1 h2 X0 hu e0 zero one ht
  generalize str (Lib.itoa 0) = S0 at *
  generalize str (Lib.itoa 1) = S1 at *
  rcases h with rfl | rfl | rfl | rfl | rfl | rfl | rfl | rfl | rfl
  · have HF := Lib.hid (HN.out (by simp [ofSameT]))
    clear H0 H1 HN HS q0 q1 HX HU
    go_enter Tryz.func210, Tryz.ntmps210
    go_wp2
    (try simp only [Exit.inBlock, Exit.then])
    refine bodyPost_ret (v := .tuple #[.agg #[.int .i64 0, .int .i64 0, .slice none 0 0, .int .i64 0, .string ⟨#[]⟩], .bool false]) ?_ rfl ?_
    · simp [results, Tryz.results210, go_sem, reduceIte]
    · exact HF.out
  · have HF0 := Lib.hid (fun w1 => H0.out w1 (by simp [ofSameT]))
    clear H0 H1 HN HS HU
    go_enter Tryz.func210, Tryz.ntmps210
    go_wp2_with fail
    refine q0.mono ?_
    rintro e w1 ⟨rfl, b1⟩
    have X := HX.out.next b1
    have HF := Lib.hid (HF0.out w1 b1)
    unfold set5 at HF
    have z0 := X.rg.cell (i := 0) rfl
    have f0 := X.rg.frozen 0
    have z1 := X.rg.cell (i := 1) rfl
    have f1 := X.rg.frozen 1
    have z2 := X.rg.cell (i := 2) rfl
    have f2 := X.rg.frozen 2
    have z3 := X.rg.cell (i := 3) rfl
    have f3 := X.rg.frozen 3
    have z4 := X.rg.cell (i := 4) rfl
    have f4 := X.rg.frozen 4
    clear X b1 q0 q1 HX HF0
    go_wp2
    (try simp only [Exit.inBlock, Exit.then])
    refine bodyPost_ret (v := .tuple #[.agg #[.int .i64 1, .int .i64 0, .slice none 0 0, .int .i64 1, .string S0], .bool true]) ?_ rfl ?_
    · simp [results, Tryz.results210, go_sem, z0, z1, z2, z3, z4]
    · exact HF.out
  · have HF := Lib.hid (HN.out (by simp [ofSameT]))
    clear H0 H1 HN HS q0 q1 HX HU
    go_enter Tryz.func210, Tryz.ntmps210
    go_wp2
    (try simp only [Exit.inBlock, Exit.then])
    refine bodyPost_ret (v := .tuple #[.agg #[.int .i64 0, .int .i64 0, .slice none 0 0, .int .i64 0, .string ⟨#[]⟩], .bool false]) ?_ rfl ?_
    · simp [results, Tryz.results210, go_sem, reduceIte]
    · exact HF.out
  · have HF := Lib.hid (HS.out (by simp [ofSameT]))
    clear H0 H1 HN HS q0 q1 HX HU
    generalize str (showT u) = X1 at *
    generalize ckind u = ku at *
    generalize cval u = nu at *
    generalize u.size = zu at *
    go_enter Tryz.func210, Tryz.ntmps210
    go_wp2
    (try simp only [Exit.inBlock, Exit.then])
    refine bodyPost_ret (v := .tuple #[.agg #[.int .i64 ku, .int .i64 nu, .slice uo un uc, .int .i64 zu, .string X1], .bool true]) ?_ rfl ?_
    · simp [results, Tryz.results210, go_sem, reduceIte]
    · exact HF.out
  · have HF := Lib.hid (HS.out (by simp [ofSameT]))
    clear H0 H1 HN HS q0 q1 HX HU
    generalize str (showT u) = X1 at *
    generalize ckind u = ku at *
    generalize cval u = nu at *
    generalize u.size = zu at *
    go_enter Tryz.func210, Tryz.ntmps210
    go_wp2
    (try simp only [Exit.inBlock, Exit.then])
    refine bodyPost_ret (v := .tuple #[.agg #[.int .i64 ku, .int .i64 nu, .slice uo un uc, .int .i64 zu, .string X1], .bool true]) ?_ rfl ?_
    · simp [results, Tryz.results210, go_sem, reduceIte]
    · exact HF.out
  · have HF0 := Lib.hid (fun w1 => H0.out w1 (by simp [ofSameT]))
    clear H0 H1 HN HS HU
    go_enter Tryz.func210, Tryz.ntmps210
    go_wp2_with fail
    refine q0.mono ?_
    rintro e w1 ⟨rfl, b1⟩
    have X := HX.out.next b1
    have HF := Lib.hid (HF0.out w1 b1)
    unfold set5 at HF
    have z0 := X.rg.cell (i := 0) rfl
    have f0 := X.rg.frozen 0
    have z1 := X.rg.cell (i := 1) rfl
    have f1 := X.rg.frozen 1
    have z2 := X.rg.cell (i := 2) rfl
    have f2 := X.rg.frozen 2
    have z3 := X.rg.cell (i := 3) rfl
    have f3 := X.rg.frozen 3
    have z4 := X.rg.cell (i := 4) rfl
    have f4 := X.rg.frozen 4
    clear X b1 q0 q1 HX HF0
    go_wp2
    (try simp only [Exit.inBlock, Exit.then])
    refine bodyPost_ret (v := .tuple #[.agg #[.int .i64 1, .int .i64 0, .slice none 0 0, .int .i64 1, .string S0], .bool true]) ?_ rfl ?_
    · simp [results, Tryz.results210, go_sem, z0, z1, z2, z3, z4]
    · exact HF.out
  · have HF0 := Lib.hid (fun w1 => H0.out w1 (by simp [ofSameT]))
    clear H0 H1 HN HS HU
    go_enter Tryz.func210, Tryz.ntmps210
    go_wp2_with fail
    refine q0.mono ?_
    rintro e w1 ⟨rfl, b1⟩
    have X := HX.out.next b1
    have HF := Lib.hid (HF0.out w1 b1)
    unfold set5 at HF
    have z0 := X.rg.cell (i := 0) rfl
    have f0 := X.rg.frozen 0
    have z1 := X.rg.cell (i := 1) rfl
    have f1 := X.rg.frozen 1
    have z2 := X.rg.cell (i := 2) rfl
    have f2 := X.rg.frozen 2
    have z3 := X.rg.cell (i := 3) rfl
    have f3 := X.rg.frozen 3
    have z4 := X.rg.cell (i := 4) rfl
    have f4 := X.rg.frozen 4
    clear X b1 q0 q1 HX HF0
    go_wp2
    (try simp only [Exit.inBlock, Exit.then])
    refine bodyPost_ret (v := .tuple #[.agg #[.int .i64 1, .int .i64 0, .slice none 0 0, .int .i64 1, .string S0], .bool true]) ?_ rfl ?_
    · simp [results, Tryz.results210, go_sem, z0, z1, z2, z3, z4]
    · exact HF.out
  · have HF0 := Lib.hid (fun w1 => H1.out w1 (by simp [ofSameT]))
    clear H0 H1 HN HS HU
    go_enter Tryz.func210, Tryz.ntmps210
    go_wp2_with fail
    refine q1.mono ?_
    rintro e w1 ⟨rfl, b1⟩
    have X := HX.out.next b1
    have HF := Lib.hid (HF0.out w1 b1)
    unfold set5 at HF
    have z0 := X.rg.cell (i := 0) rfl
    have f0 := X.rg.frozen 0
    have z1 := X.rg.cell (i := 1) rfl
    have f1 := X.rg.frozen 1
    have z2 := X.rg.cell (i := 2) rfl
    have f2 := X.rg.frozen 2
    have z3 := X.rg.cell (i := 3) rfl
    have f3 := X.rg.frozen 3
    have z4 := X.rg.cell (i := 4) rfl
    have f4 := X.rg.frozen 4
    clear X b1 q0 q1 HX HF0
    go_wp2
    (try simp only [Exit.inBlock, Exit.then])
    refine bodyPost_ret (v := .tuple #[.agg #[.int .i64 1, .int .i64 1, .slice none 0 0, .int .i64 1, .string S1], .bool true]) ?_ rfl ?_
    · simp [results, Tryz.results210, go_sem, z0, z1, z2, z3, z4]
    · exact HF.out
  · have HF := Lib.hid (HN.out (by simp [ofSameT]))
    clear H0 H1 HN HS q0 q1 HX HU
    go_enter Tryz.func210, Tryz.ntmps210
    go_wp2
    (try simp only [Exit.inBlock, Exit.then])
    refine bodyPost_ret (v := .tuple #[.agg #[.int .i64 0, .int .i64 0, .slice none 0 0, .int .i64 0, .string ⟨#[]⟩], .bool false]) ?_ rfl ?_
    · simp [results, Tryz.results210, go_sem, reduceIte]
    · exact HF.out

/-- Do u and v change places? -/
noncomputable def changeT (kind : Int) (u v : TD) : Bool := @decide (turnsT kind = true ∧ (u.isNum.isSome = true ∨ (u.isNum = none ∧ v.isNum = none ∧ showT v < showT u))) (Classical.propDecidable _)

theorem changeT_eq {kind : Int} {u v : TD} {z : Bool} (h : (turnsT kind = true ∧ (u.isNum.isSome = true ∨ (u.isNum = none ∧ v.isNum = none ∧ showT v < showT u))) ↔ z = true) : changeT kind u v = z := by
  unfold changeT
  cases z with
  | true => simpa using h.2 rfl
  | false => exact (decide_eq_false_iff_not).2 (fun q => by have := h.1 q; cases this)

set_option maxRecDepth 100000 in
set_option maxHeartbeats 4000000 in
theorem cChange_any (kind : Int) (hk : 3 ≤ kind ∧ kind ≤ 11) (u v : TD) (pu pv : Value) (fu : u.fine) (fv : v.fine) (w : World) :
    Calls Tryz.prog 201 #[.int .i64 kind, termV u pu, termV v pv] w fun e w' => e = .returned (.bool (changeT kind u v)) ∧ Below w.heap.size w w' := by
  have X0 := Duo.start w u v pu pv
  have q1 := cNum_any fu pu ((w.alloc (.cells #[.int .i64 (ckind u), .int .i64 (cval u), pu, .int .i64 u.size, .string (str (showT u))] 119)).alloc (.cells #[.int .i64 (ckind v), .int .i64 (cval v), pv, .int .i64 v.size, .string (str (showT v))] 119))
  have q2 := fun W => cNum_any fv pv W
  have hl := less_show u v
  have HX := Lib.hid X0
  unfold termV at q1 q2 ⊢
  by_cases ht : turnsT kind = true
  · have hk' := (turnsT_eq kind).1 ht
    have n4 : (kind == 4) = false := by simp; omega
    have n9 : (kind == 9) = false := by simp; omega
    have n11 : (kind == 11) = false := by simp; omega
    have HC : Hid (∀ z, ((u.isNum.isSome = true ∨ (u.isNum = none ∧ v.isNum = none ∧ showT v < showT u)) ↔ z = true) → changeT kind u v = z) := fun z hz => changeT_eq (by rw [← hz]; simp [ht])
    have hul : u.isNum = none ↔ u.isNum.isSome = false := by cases u.isNum <;> simp
    have hvl : v.isNum = none ↔ v.isNum.isSome = false := by cases v.isNum <;> simp
    rw [hul, hvl] at HC
    clear X0 ht hk' hul hvl
    generalize numOf u = x at *
    generalize numOf v = y at *
    generalize u.isNum.isSome = su at *
    generalize v.isNum.isSome = sv at *
    go_enter Tryz.func201, Tryz.ntmps201
    go_wp2_with fail
    refine q1.mono ?_
    rintro e w1 ⟨rfl, b1⟩
    have X := HX.out.next b1
    have HY := Lib.hid X
    have c0 := X.rv.cell (i := 0) rfl
    have c1 := X.rv.cell (i := 1) rfl
    have c2 := X.rv.cell (i := 2) rfl
    have c3 := X.rv.cell (i := 3) rfl
    have c4 := X.rv.cell (i := 4) rfl
    clear X b1 q1 HX
    go_wp2_with fail
    refine (q2 w1).mono ?_
    rintro e w2 ⟨rfl, b2⟩
    have X2 := HY.out.next b2
    have HB := Lib.hid X2.keep
    have d4 := X2.rv.cell (i := 4) rfl
    have e4 := X2.ru.cell (i := 4) rfl
    clear b2 q2 HY c0 c1 c2 c3 c4 X2
    cases su with
    | true =>
      have HE := Lib.hid (HC.out true (by simp))
      clear HC hl
      go_wp2
      go_ret
      exact ⟨by rw [HE.out]; rfl, HB.out⟩
    | false =>
      cases sv with
      | true =>
        have HE := Lib.hid (HC.out false (by simp))
        clear HC hl
        go_wp2
        go_ret
        exact ⟨by rw [HE.out]; rfl, HB.out⟩
      | false =>
        have HE := Lib.hid (HC.out (Op.bytesLess (str (showT v)).toList (str (showT u)).toList) (by rw [hl]; simp))
        clear HC hl
        go_wp2
        go_ret
        exact ⟨by rw [HE.out]; rfl, HB.out⟩
  · have hc : changeT kind u v = false := changeT_eq (by simp [ht])
    rw [hc]
    have h3 : kind = 4 ∨ kind = 9 ∨ kind = 11 := by
      have : ¬ (kind = 3 ∨ kind = 5 ∨ kind = 6 ∨ kind = 7 ∨ kind = 8 ∨ kind = 10) := fun q => ht ((turnsT_eq kind).2 q)
      omega
    have HB := Lib.hid X0.keep
    clear X0 HX q1 q2 hl hc ht
    rcases h3 with rfl | rfl | rfl
    all_goals
      go_enter Tryz.func201, Tryz.ntmps201
      go_wp2
      go_ret
      exact ⟨rfl, HB.out⟩

end Go.Proofs.YtblhmeidbjigaaaGreatDoor
