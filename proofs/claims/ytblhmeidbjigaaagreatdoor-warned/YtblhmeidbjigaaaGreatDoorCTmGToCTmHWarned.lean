/- The code's terms: inOrder, given withNumber. -/
import Derived.Test.YtblhmeidbjigaaaGreatDoorRows
import Derived.WalkKit
import Derived.WalkSpells
import Derived.WalkLawsBesides
import Derived.Laws.BytesArg
import Derived.Deep.QuietTactic
import Derived.BigQuiet
import Derived.Deep.RegionHeld3
import Derived.Lib.ItoaNum
import Derived.Lib.ItoaLen
import Derived.OpenShut
import Derived.Maps.AppendAt
import Derived.Shelf.Strconv.Itoa3
import Derived.Shelf.Lay
import Derived.Ground.NamesProg
import Derived.Lib.SmallJoins
import Derived.Lib.Hide
import Derived.StillTailTactics
import Derived.Test.YtblhmeidbjigaaaGreatDoorCTmDToCTmFWarned

set_option linter.unusedSimpArgs false
set_option linter.unusedVariables false
namespace Go.Proofs.YtblhmeidbjigaaaGreatDoor
open Go.RowKit

/-- What withNumber answers. -/
def WithC (kind : Int) (u : TD) : Prop := ∀ ⦃Lo : Nat⦄ (pu : Value) (n : Int) (w : World) (Post : Ending → World → Prop), PartsAt Lo w u pu → W64 n → TabW w →
  (∀ t pt w', besideT kind u n = some t → PartsAt Lo w' t pt → Below w.heap.size w w' → Post (.returned (.tuple #[termV t pt, .bool true])) w') →
  (∀ w', besideT kind u n = none → Below w.heap.size w w' → Post (.returned (.tuple #[.agg #[.int .i64 0, .int .i64 0, .slice none 0 0, .int .i64 0, .string ⟨#[]⟩], .bool false])) w') →
  Calls Tryz.prog 209 #[.int .i64 kind, termV u pu, .int .i64 n] w Post

theorem rest_same {kind : Int} {u v : TD} (h : u = v) : restT kind u v = (ofSameT kind u).getD (if kind = 10 then tnum 1 else .two kind u v) := by
  unfold ofSameT
  by_cases h1 : kind = 4 ∨ kind = 8 ∨ kind = 9
  · rw [rest_zero h h1, if_pos h1]; rfl
  rw [if_neg h1]
  by_cases h2 : kind = 6 ∨ kind = 7
  · rw [rest_self h h2, if_pos h2]; rfl
  rw [if_neg h2]
  by_cases h3 : kind = 10
  · rw [rest_one h h3, if_pos h3]; rfl
  rw [if_neg h3, if_neg h3]
  unfold restT
  rw [if_neg (fun q => h1 q.2), if_neg (fun q => h2 q.2), if_neg (fun q => h3 q.2), if_neg (fun q => h3 q.1)]
  rfl

set_option maxRecDepth 100000 in
set_option maxHeartbeats 2000000 in
theorem cInOrder_none {Lo : Nat} (kind : Int) (hk : 3 ≤ kind ∧ kind ≤ 11) (u v : TD) (uo vo : Option Addr) (un uc vn vc : Nat) (w : World) (hu : PartsAt Lo w u (.slice uo un uc)) (hv : PartsAt Lo w v (.slice vo vn vc)) (fu : u.fine) (fv : v.fine) (su : u.size ≤ 1000000000) (sv : v.size ≤ 1000000000) (ht : TabW w) (hn : v.isNum = none) (Post : Ending → World → Prop)
    (hp : ∀ ps w', PartsAt Lo w' (restT kind u v) ps → Below w.heap.size w w' → Post (.returned (termV (restT kind u v) ps)) w') :
    Calls Tryz.prog 202 #[.int .i64 kind, termV u (.slice uo un uc), termV v (.slice vo vn vc)] w Post := by
  have X0 := Box2.start w u v (.slice uo un uc) (.slice vo vn vc)
  have q1 := cNumber_none fv hn (.slice vo vn vc) (((w.alloc (.cells #[.int .i64 (ckind u), .int .i64 (cval u), (.slice uo un uc), .int .i64 u.size, .string (str (showT u))] 119)).alloc (.cells #[.int .i64 (ckind v), .int .i64 (cval v), (.slice vo vn vc), .int .i64 v.size, .string (str (showT v))] 119)).alloc (.cells #[.int .i64 0, .int .i64 0, .slice none 0 0, .int .i64 0, .string ⟨#[]⟩] 119))
  have HX := Lib.hid X0
  have HU := Lib.hid hu
  have HV := Lib.hid hv
  have HT := Lib.hid ht
  have HR : Hid (∀ t, restT kind u v = t → ∀ ps w', PartsAt Lo w' t ps → Below w.heap.size w w' → Post (.returned (termV t ps)) w') := fun t e => by subst e; exact hp
  unfold termV at q1 ⊢
  clear X0 hu hv ht hp
  go_enter Tryz.func202, Tryz.ntmps202
  go_wp2_with fail
  refine q1.mono ?_
  rintro e w1 ⟨rfl, b1⟩
  have X := HX.out.next b1
  clear q1 b1 HX
  have a0 := X.ru.cell (i := 0) rfl
  have a1 := X.ru.cell (i := 1) rfl
  have a2 := X.ru.cell (i := 2) rfl
  have a3 := X.ru.cell (i := 3) rfl
  have a4 := X.ru.cell (i := 4) rfl
  have c0 := X.rv.cell (i := 0) rfl
  have c1 := X.rv.cell (i := 1) rfl
  have c2 := X.rv.cell (i := 2) rfl
  have c3 := X.rv.cell (i := 3) rfl
  have c4 := X.rv.cell (i := 4) rfl
  have q5 := cSame_any u v (.slice uo un uc) (.slice vo vn vc) fu fv w1
  unfold termV at q5
  go_wp2_with fail
  refine q5.mono ?_
  rintro e w5 ⟨rfl, b5⟩
  have X5 := X.next b5
  clear q5 a0 a1 a2 a3 a4 c0 c1 c2 c3 c4 b5
  by_cases huv : u = v
  · rw [(sameT_iff u v).2 huv]
    have HUV := Lib.hid huv
    clear huv
    have a0 := X5.ru.cell (i := 0) rfl
    have a1 := X5.ru.cell (i := 1) rfl
    have a2 := X5.ru.cell (i := 2) rfl
    have a3 := X5.ru.cell (i := 3) rfl
    have a4 := X5.ru.cell (i := 4) rfl
    have q6 := fun P => cOfSame_cps kind hk u (.slice uo un uc) w5 (HU.out.keep X5.keep) (HT.out.keep X5.keep) P
    unfold termV at q6
    go_wp2_with fail
    refine q6 _ ?_ ?_
    · intro t pt w6 he p6 b6
      have X6 := X5.next b6
      obtain ⟨to, tn, tc, rfl⟩ := p6.slice
      have hrow : restT kind u v = t := by rw [rest_same HUV.out, he]; rfl
      have X7 := X6.next ((Below.refl w6.heap.size w6).alloc (Nat.le_refl _) (.cells #[.int .i64 (ckind t), .int .i64 (cval t), (.slice to tn tc), .int .i64 t.size, .string (str (showT t))] 119))
      have p7 := p6.keep ((Below.refl w6.heap.size w6).alloc (Nat.le_refl _) (.cells #[.int .i64 (ckind t), .int .i64 (cval t), (.slice to tn tc), .int .i64 t.size, .string (str (showT t))] 119))
      have HP' := Lib.hid (HR.out t hrow)
      clear q6 a0 a1 a2 a3 a4 b6 p6 X6 X5 he
      have y := X7.fin p7
      have HF := Lib.hid (HP'.out _ _ y.1 y.2)
      unfold termV set5 at HF
      have z0 := X7.rg.cell (i := 0) rfl
      have f0 := X7.rg.frozen 0
      have z1 := X7.rg.cell (i := 1) rfl
      have f1 := X7.rg.frozen 1
      have z2 := X7.rg.cell (i := 2) rfl
      have f2 := X7.rg.frozen 2
      have z3 := X7.rg.cell (i := 3) rfl
      have f3 := X7.rg.frozen 3
      have z4 := X7.rg.cell (i := 4) rfl
      have f4 := X7.rg.frozen 4
      clear y
      go_wp2
      (try simp only [Exit.inBlock, Exit.then])
      refine bodyPost_ret (v := .agg #[.int .i64 (ckind t), .int .i64 (cval t), (.slice to tn tc), .int .i64 (t).size, .string (str (showT t))]) ?_ rfl ?_
      · simp [results, Tryz.results202, go_sem, z0, z1, z2, z3, z4]
      · exact HF.out
    · intro w6 he b6
      have Y6 := X5.next b6
      have X6 := Y6.next ((Below.refl w6.heap.size w6).alloc (Nat.le_refl _) (.cells #[.int .i64 0, .int .i64 0, .slice none 0 0, .int .i64 0, .string ⟨#[]⟩] 119))
      have hk3 : (kind == 10) = false := by
        have : kind ≠ 10 := fun e => by rw [e] at he; simp [ofSameT] at he
        simp [this]
      have hrow : restT kind u v = .two kind u v := by rw [rest_same HUV.out, he]; simp only [Option.getD]; rw [if_neg (by simpa using hk3)]
      have HP' := Lib.hid (HR.out _ hrow)
      clear q6 a0 a1 a2 a3 a4 b6 X5 he
      have a0 := fun o => (Y6.ru.alloc o).cell (i := 0) rfl
      have a1 := fun o => (Y6.ru.alloc o).cell (i := 1) rfl
      have a2 := fun o => (Y6.ru.alloc o).cell (i := 2) rfl
      have a3 := fun o => (Y6.ru.alloc o).cell (i := 3) rfl
      have a4 := fun o => (Y6.ru.alloc o).cell (i := 4) rfl
      have c0 := fun o => (Y6.rv.alloc o).cell (i := 0) rfl
      have c1 := fun o => (Y6.rv.alloc o).cell (i := 1) rfl
      have c2 := fun o => (Y6.rv.alloc o).cell (i := 2) rfl
      have c3 := fun o => (Y6.rv.alloc o).cell (i := 3) rfl
      have c4 := fun o => (Y6.rv.alloc o).cell (i := 4) rfl
      have q9 := fun P => cOfTwo_cps kind ⟨hk.1, by omega⟩ u v (.slice uo un uc) (.slice vo vn vc) (w6.alloc (.cells #[.int .i64 0, .int .i64 0, .slice none 0 0, .int .i64 0, .string ⟨#[]⟩] 119)) (HU.out.keep X6.keep) (HV.out.keep X6.keep) fu fv (by omega) (by omega) P
      unfold termV at q9
      go_wp2_with fail
      refine q9 _ ?_
      intro pt w9 p9 b9
      have X9 := X6.next b9
      obtain ⟨to, tn, tc, rfl⟩ := p9.slice
      clear q9 a0 a1 a2 a3 a4 c0 c1 c2 c3 c4
      have y := X9.fin p9
      have HF := Lib.hid (HP'.out _ _ y.1 y.2)
      unfold termV set5 at HF
      have z0 := X9.rg.cell (i := 0) rfl
      have f0 := X9.rg.frozen 0
      have z1 := X9.rg.cell (i := 1) rfl
      have f1 := X9.rg.frozen 1
      have z2 := X9.rg.cell (i := 2) rfl
      have f2 := X9.rg.frozen 2
      have z3 := X9.rg.cell (i := 3) rfl
      have f3 := X9.rg.frozen 3
      have z4 := X9.rg.cell (i := 4) rfl
      have f4 := X9.rg.frozen 4
      clear y 
      go_wp2
      (try simp only [Exit.inBlock, Exit.then])
      refine bodyPost_ret (v := .agg #[.int .i64 (ckind (TD.two kind u v)), .int .i64 (cval (TD.two kind u v)), (.slice to tn tc), .int .i64 ((TD.two kind u v)).size, .string (str (showT (TD.two kind u v)))]) ?_ rfl ?_
      · simp [results, Tryz.results202, go_sem, z0, z1, z2, z3, z4]
      · exact HF.out
  · rw [sameT_ne huv]
    by_cases hk10 : kind = 10
    · subst hk10
      have a0 := X5.ru.cell (i := 0) rfl
      have a1 := X5.ru.cell (i := 1) rfl
      have a2 := X5.ru.cell (i := 2) rfl
      have a3 := X5.ru.cell (i := 3) rfl
      have a4 := X5.ru.cell (i := 4) rfl
      have c0 := X5.rv.cell (i := 0) rfl
      have c1 := X5.rv.cell (i := 1) rfl
      have c2 := X5.rv.cell (i := 2) rfl
      have c3 := X5.rv.cell (i := 3) rfl
      have c4 := X5.rv.cell (i := 4) rfl
      have q6 := cApart_any u v (.slice uo un uc) (.slice vo vn vc) fu fv w5 (HU.out.keep X5.keep) (HV.out.keep X5.keep)
      unfold termV at q6
      go_wp2_with fail
      refine q6.mono ?_
      rintro e w6 ⟨rfl, b6⟩
      have X6 := X5.next b6
      clear q6 a0 a1 a2 a3 a4 c0 c1 c2 c3 c4 b6 X5
      cases hap : apartT u v with
      | true =>
        have hrow : restT 10 u v = tnum 0 := rest_apart huv rfl hap
        have HP' := Lib.hid (HR.out _ hrow)
        have q7 := cOfNumber_any 0 (by constructor <;> decide) w6 (HT.out.keep X6.keep)
        unfold termV at q7
        go_wp2_with fail
        refine q7.mono ?_
        rintro e w7 ⟨rfl, b7⟩
        have X7 := X6.next b7
        have p7 : PartsAt Lo w7 (tnum 0) (.slice none 0 0) := HU.out.leaf X7.keep 100 0
        clear q7 b7 X6
        have y := X7.fin p7
        have HF := Lib.hid (HP'.out _ _ y.1 y.2)
        unfold termV set5 at HF
        have z0 := X7.rg.cell (i := 0) rfl
        have f0 := X7.rg.frozen 0
        have z1 := X7.rg.cell (i := 1) rfl
        have f1 := X7.rg.frozen 1
        have z2 := X7.rg.cell (i := 2) rfl
        have f2 := X7.rg.frozen 2
        have z3 := X7.rg.cell (i := 3) rfl
        have f3 := X7.rg.frozen 3
        have z4 := X7.rg.cell (i := 4) rfl
        have f4 := X7.rg.frozen 4
        clear y 
        go_wp2
        (try simp only [Exit.inBlock, Exit.then])
        refine bodyPost_ret (v := .agg #[.int .i64 (ckind (tnum 0)), .int .i64 (cval (tnum 0)), (.slice none 0 0), .int .i64 ((tnum 0)).size, .string (str (showT (tnum 0)))]) ?_ rfl ?_
        · simp [results, Tryz.results202, go_sem, z0, z1, z2, z3, z4]
        · exact HF.out
      | false =>
        have hrow : restT 10 u v = .two 10 u v := rest_else huv (fun q => by rw [hap] at q; cases q.2)
        have HP' := Lib.hid (HR.out _ hrow)
        have a0 := X6.ru.cell (i := 0) rfl
        have a1 := X6.ru.cell (i := 1) rfl
        have a2 := X6.ru.cell (i := 2) rfl
        have a3 := X6.ru.cell (i := 3) rfl
        have a4 := X6.ru.cell (i := 4) rfl
        have c0 := X6.rv.cell (i := 0) rfl
        have c1 := X6.rv.cell (i := 1) rfl
        have c2 := X6.rv.cell (i := 2) rfl
        have c3 := X6.rv.cell (i := 3) rfl
        have c4 := X6.rv.cell (i := 4) rfl
        have q9 := fun P => cOfTwo_cps 10 (by omega) u v (.slice uo un uc) (.slice vo vn vc) w6 (HU.out.keep X6.keep) (HV.out.keep X6.keep) fu fv (by omega) (by omega) P
        unfold termV at q9
        go_wp2_with fail
        refine q9 _ ?_
        intro pt w9 p9 b9
        have X9 := X6.next b9
        obtain ⟨to, tn, tc, rfl⟩ := p9.slice
        clear q9 a0 a1 a2 a3 a4 c0 c1 c2 c3 c4
        have y := X9.fin p9
        have HF := Lib.hid (HP'.out _ _ y.1 y.2)
        unfold termV set5 at HF
        have z0 := X9.rg.cell (i := 0) rfl
        have f0 := X9.rg.frozen 0
        have z1 := X9.rg.cell (i := 1) rfl
        have f1 := X9.rg.frozen 1
        have z2 := X9.rg.cell (i := 2) rfl
        have f2 := X9.rg.frozen 2
        have z3 := X9.rg.cell (i := 3) rfl
        have f3 := X9.rg.frozen 3
        have z4 := X9.rg.cell (i := 4) rfl
        have f4 := X9.rg.frozen 4
        clear y 
        go_wp2
        (try simp only [Exit.inBlock, Exit.then])
        refine bodyPost_ret (v := .agg #[.int .i64 (ckind (TD.two 10 u v)), .int .i64 (cval (TD.two 10 u v)), (.slice to tn tc), .int .i64 ((TD.two 10 u v)).size, .string (str (showT (TD.two 10 u v)))]) ?_ rfl ?_
        · simp [results, Tryz.results202, go_sem, z0, z1, z2, z3, z4]
        · exact HF.out
    · have hrow : restT kind u v = .two kind u v := rest_else huv (fun q => hk10 q.1)
      have HP' := Lib.hid (HR.out _ hrow)
      have hk3 : (kind == 10) = false := by simp [hk10]
      have a0 := X5.ru.cell (i := 0) rfl
      have a1 := X5.ru.cell (i := 1) rfl
      have a2 := X5.ru.cell (i := 2) rfl
      have a3 := X5.ru.cell (i := 3) rfl
      have a4 := X5.ru.cell (i := 4) rfl
      have c0 := X5.rv.cell (i := 0) rfl
      have c1 := X5.rv.cell (i := 1) rfl
      have c2 := X5.rv.cell (i := 2) rfl
      have c3 := X5.rv.cell (i := 3) rfl
      have c4 := X5.rv.cell (i := 4) rfl
      have q9 := fun P => cOfTwo_cps kind ⟨hk.1, by omega⟩ u v (.slice uo un uc) (.slice vo vn vc) w5 (HU.out.keep X5.keep) (HV.out.keep X5.keep) fu fv (by omega) (by omega) P
      unfold termV at q9
      go_wp2_with fail
      refine q9 _ ?_
      intro pt w9 p9 b9
      have X9 := X5.next b9
      obtain ⟨to, tn, tc, rfl⟩ := p9.slice
      clear q9 a0 a1 a2 a3 a4 c0 c1 c2 c3 c4
      have y := X9.fin p9
      have HF := Lib.hid (HP'.out _ _ y.1 y.2)
      unfold termV set5 at HF
      have z0 := X9.rg.cell (i := 0) rfl
      have f0 := X9.rg.frozen 0
      have z1 := X9.rg.cell (i := 1) rfl
      have f1 := X9.rg.frozen 1
      have z2 := X9.rg.cell (i := 2) rfl
      have f2 := X9.rg.frozen 2
      have z3 := X9.rg.cell (i := 3) rfl
      have f3 := X9.rg.frozen 3
      have z4 := X9.rg.cell (i := 4) rfl
      have f4 := X9.rg.frozen 4
      clear y 
      go_wp2
      (try simp only [Exit.inBlock, Exit.then])
      refine bodyPost_ret (v := .agg #[.int .i64 (ckind (TD.two kind u v)), .int .i64 (cval (TD.two kind u v)), (.slice to tn tc), .int .i64 ((TD.two kind u v)).size, .string (str (showT (TD.two kind u v)))]) ?_ rfl ?_
      · simp [results, Tryz.results202, go_sem, z0, z1, z2, z3, z4]
      · exact HF.out


set_option maxRecDepth 100000 in
set_option maxHeartbeats 4000000 in
theorem cInOrder_some {Lo : Nat} (kind : Int) (hk : 3 ≤ kind ∧ kind ≤ 11) (u v : TD) (uo vo : Option Addr) (un uc vn vc : Nat) (w : World) (hu : PartsAt Lo w u (.slice uo un uc)) (hv : PartsAt Lo w v (.slice vo vn vc)) (fu : u.fine) (fv : v.fine) (su : u.size ≤ 1000000000) (sv : v.size ≤ 1000000000) (ht : TabW w) (n : Int) (hn : v.isNum = some n) (HW : WithC kind u) (Post : Ending → World → Prop)
    (hp : ∀ ps w', PartsAt Lo w' (rowT kind u v) ps → Below w.heap.size w w' → Post (.returned (termV (rowT kind u v) ps)) w') :
    Calls Tryz.prog 202 #[.int .i64 kind, termV u (.slice uo un uc), termV v (.slice vo vn vc)] w Post := by
  have X0 := Box2.start w u v (.slice uo un uc) (.slice vo vn vc)
  have q1 := cNumber_some hn (.slice vo vn vc) (((w.alloc (.cells #[.int .i64 (ckind u), .int .i64 (cval u), (.slice uo un uc), .int .i64 u.size, .string (str (showT u))] 119)).alloc (.cells #[.int .i64 (ckind v), .int .i64 (cval v), (.slice vo vn vc), .int .i64 v.size, .string (str (showT v))] 119)).alloc (.cells #[.int .i64 0, .int .i64 0, .slice none 0 0, .int .i64 0, .string ⟨#[]⟩] 119))
  have hw64 : W64 n := isNum_fine hn fv
  have HX := Lib.hid X0
  have HU := Lib.hid hu
  have HV := Lib.hid hv
  have HT := Lib.hid ht
  have HS : Hid (∀ t, besideT kind u n = some t → ∀ ps w', PartsAt Lo w' t ps → Below w.heap.size w w' → Post (.returned (termV t ps)) w') := fun t e => by
    rw [row_some (show v.isNum.bind (besideT kind u) = some t by rw [hn]; exact e)] at hp; exact hp
  have HR0 : Hid (besideT kind u n = none → ∀ t, restT kind u v = t → ∀ ps w', PartsAt Lo w' t ps → Below w.heap.size w w' → Post (.returned (termV t ps)) w') := fun e t et => by
    rw [row_rest (show v.isNum.bind (besideT kind u) = none by rw [hn]; exact e)] at hp; subst et; exact hp
  have HN := Lib.hid hn
  unfold termV at q1 ⊢
  clear X0 hu hv ht hp hn
  go_enter Tryz.func202, Tryz.ntmps202
  go_wp2_with fail
  refine q1.mono ?_
  rintro e w1 ⟨rfl, b1⟩
  have X := HX.out.next b1
  have q2 := fun P => HW (.slice uo un uc) n w1 P (HU.out.keep X.keep) hw64 (HT.out.keep X.keep)
  unfold termV at q2
  have a0 := X.ru.cell (i := 0) rfl
  have a1 := X.ru.cell (i := 1) rfl
  have a2 := X.ru.cell (i := 2) rfl
  have a3 := X.ru.cell (i := 3) rfl
  have a4 := X.ru.cell (i := 4) rfl
  clear q1 b1 HX HW
  go_wp2_with fail
  refine q2 _ ?_ ?_
  · intro t pt w3 he p3 b3
    have X3 := X.next b3
    obtain ⟨to, tn, tc, rfl⟩ := p3.slice
    have X4 := X3.next ((Below.refl w3.heap.size w3).alloc (Nat.le_refl _) (.cells #[.int .i64 (ckind t), .int .i64 (cval t), (.slice to tn tc), .int .i64 t.size, .string (str (showT t))] 119))
    have p4 := p3.keep ((Below.refl w3.heap.size w3).alloc (Nat.le_refl _) (.cells #[.int .i64 (ckind t), .int .i64 (cval t), (.slice to tn tc), .int .i64 t.size, .string (str (showT t))] 119))
    have HP' := Lib.hid (HS.out t he)
    clear q2 a0 a1 a2 a3 a4 b3 p3 X3 X he
    have y := X4.fin p4
    have HF := Lib.hid (HP'.out _ _ y.1 y.2)
    unfold termV set5 at HF
    have z0 := X4.rg.cell (i := 0) rfl
    have f0 := X4.rg.frozen 0
    have z1 := X4.rg.cell (i := 1) rfl
    have f1 := X4.rg.frozen 1
    have z2 := X4.rg.cell (i := 2) rfl
    have f2 := X4.rg.frozen 2
    have z3 := X4.rg.cell (i := 3) rfl
    have f3 := X4.rg.frozen 3
    have z4 := X4.rg.cell (i := 4) rfl
    have f4 := X4.rg.frozen 4
    clear y
    go_wp2
    (try simp only [Exit.inBlock, Exit.then])
    refine bodyPost_ret (v := .agg #[.int .i64 (ckind t), .int .i64 (cval t), (.slice to tn tc), .int .i64 (t).size, .string (str (showT t))]) ?_ rfl ?_
    · simp [results, Tryz.results202, go_sem, z0, z1, z2, z3, z4]
    · exact HF.out
  · intro w3 he b3
    have Y3 := X.next b3
    have X4 := Y3.next ((Below.refl w3.heap.size w3).alloc (Nat.le_refl _) (.cells #[.int .i64 0, .int .i64 0, .slice none 0 0, .int .i64 0, .string ⟨#[]⟩] 119))
    have HR := Lib.hid (HR0.out he)
    clear q2 a0 a1 a2 a3 a4 b3 X he HR0 HS
    have a0 := fun o => (Y3.ru.alloc o).cell (i := 0) rfl
    have a1 := fun o => (Y3.ru.alloc o).cell (i := 1) rfl
    have a2 := fun o => (Y3.ru.alloc o).cell (i := 2) rfl
    have a3 := fun o => (Y3.ru.alloc o).cell (i := 3) rfl
    have a4 := fun o => (Y3.ru.alloc o).cell (i := 4) rfl
    have c0 := fun o => (Y3.rv.alloc o).cell (i := 0) rfl
    have c1 := fun o => (Y3.rv.alloc o).cell (i := 1) rfl
    have c2 := fun o => (Y3.rv.alloc o).cell (i := 2) rfl
    have c3 := fun o => (Y3.rv.alloc o).cell (i := 3) rfl
    have c4 := fun o => (Y3.rv.alloc o).cell (i := 4) rfl
    have q5 := cSame_any u v (.slice uo un uc) (.slice vo vn vc) fu fv (w3.alloc (.cells #[.int .i64 0, .int .i64 0, .slice none 0 0, .int .i64 0, .string ⟨#[]⟩] 119))
    unfold termV at q5
    go_wp2_with fail
    refine q5.mono ?_
    rintro e w5 ⟨rfl, b5⟩
    have X5 := X4.next b5
    clear q5 a0 a1 a2 a3 a4 c0 c1 c2 c3 c4 b5
    by_cases huv : u = v
    · rw [(sameT_iff u v).2 huv]
      have HUV := Lib.hid huv
      clear huv
      have a0 := X5.ru.cell (i := 0) rfl
      have a1 := X5.ru.cell (i := 1) rfl
      have a2 := X5.ru.cell (i := 2) rfl
      have a3 := X5.ru.cell (i := 3) rfl
      have a4 := X5.ru.cell (i := 4) rfl
      have q6 := fun P => cOfSame_cps kind hk u (.slice uo un uc) w5 (HU.out.keep X5.keep) (HT.out.keep X5.keep) P
      unfold termV at q6
      go_wp2_with fail
      refine q6 _ ?_ ?_
      · intro t pt w6 he p6 b6
        have X6 := X5.next b6
        obtain ⟨to, tn, tc, rfl⟩ := p6.slice
        have hrow : restT kind u v = t := by rw [rest_same HUV.out, he]; rfl
        have X7 := X6.next ((Below.refl w6.heap.size w6).alloc (Nat.le_refl _) (.cells #[.int .i64 (ckind t), .int .i64 (cval t), (.slice to tn tc), .int .i64 t.size, .string (str (showT t))] 119))
        have p7 := p6.keep ((Below.refl w6.heap.size w6).alloc (Nat.le_refl _) (.cells #[.int .i64 (ckind t), .int .i64 (cval t), (.slice to tn tc), .int .i64 t.size, .string (str (showT t))] 119))
        have HP' := Lib.hid (HR.out t hrow)
        clear q6 a0 a1 a2 a3 a4 b6 p6 X6 X5 he
        have y := X7.fin p7
        have HF := Lib.hid (HP'.out _ _ y.1 y.2)
        unfold termV set5 at HF
        have z0 := X7.rg.cell (i := 0) rfl
        have f0 := X7.rg.frozen 0
        have z1 := X7.rg.cell (i := 1) rfl
        have f1 := X7.rg.frozen 1
        have z2 := X7.rg.cell (i := 2) rfl
        have f2 := X7.rg.frozen 2
        have z3 := X7.rg.cell (i := 3) rfl
        have f3 := X7.rg.frozen 3
        have z4 := X7.rg.cell (i := 4) rfl
        have f4 := X7.rg.frozen 4
        clear y
        go_wp2
        (try simp only [Exit.inBlock, Exit.then])
        refine bodyPost_ret (v := .agg #[.int .i64 (ckind t), .int .i64 (cval t), (.slice to tn tc), .int .i64 (t).size, .string (str (showT t))]) ?_ rfl ?_
        · simp [results, Tryz.results202, go_sem, z0, z1, z2, z3, z4]
        · exact HF.out
      · intro w6 he b6
        have Y6 := X5.next b6
        have X6 := Y6.next ((Below.refl w6.heap.size w6).alloc (Nat.le_refl _) (.cells #[.int .i64 0, .int .i64 0, .slice none 0 0, .int .i64 0, .string ⟨#[]⟩] 119))
        have hk3 : (kind == 10) = false := by
          have : kind ≠ 10 := fun e => by rw [e] at he; simp [ofSameT] at he
          simp [this]
        have hrow : restT kind u v = .two kind u v := by rw [rest_same HUV.out, he]; simp only [Option.getD]; rw [if_neg (by simpa using hk3)]
        have HP' := Lib.hid (HR.out _ hrow)
        clear q6 a0 a1 a2 a3 a4 b6 X5 he
        have a0 := fun o => (Y6.ru.alloc o).cell (i := 0) rfl
        have a1 := fun o => (Y6.ru.alloc o).cell (i := 1) rfl
        have a2 := fun o => (Y6.ru.alloc o).cell (i := 2) rfl
        have a3 := fun o => (Y6.ru.alloc o).cell (i := 3) rfl
        have a4 := fun o => (Y6.ru.alloc o).cell (i := 4) rfl
        have c0 := fun o => (Y6.rv.alloc o).cell (i := 0) rfl
        have c1 := fun o => (Y6.rv.alloc o).cell (i := 1) rfl
        have c2 := fun o => (Y6.rv.alloc o).cell (i := 2) rfl
        have c3 := fun o => (Y6.rv.alloc o).cell (i := 3) rfl
        have c4 := fun o => (Y6.rv.alloc o).cell (i := 4) rfl
        have q9 := fun P => cOfTwo_cps kind ⟨hk.1, by omega⟩ u v (.slice uo un uc) (.slice vo vn vc) (w6.alloc (.cells #[.int .i64 0, .int .i64 0, .slice none 0 0, .int .i64 0, .string ⟨#[]⟩] 119)) (HU.out.keep X6.keep) (HV.out.keep X6.keep) fu fv (by omega) (by omega) P
        unfold termV at q9
        go_wp2_with fail
        refine q9 _ ?_
        intro pt w9 p9 b9
        have X9 := X6.next b9
        obtain ⟨to, tn, tc, rfl⟩ := p9.slice
        clear q9 a0 a1 a2 a3 a4 c0 c1 c2 c3 c4
        have y := X9.fin p9
        have HF := Lib.hid (HP'.out _ _ y.1 y.2)
        unfold termV set5 at HF
        have z0 := X9.rg.cell (i := 0) rfl
        have f0 := X9.rg.frozen 0
        have z1 := X9.rg.cell (i := 1) rfl
        have f1 := X9.rg.frozen 1
        have z2 := X9.rg.cell (i := 2) rfl
        have f2 := X9.rg.frozen 2
        have z3 := X9.rg.cell (i := 3) rfl
        have f3 := X9.rg.frozen 3
        have z4 := X9.rg.cell (i := 4) rfl
        have f4 := X9.rg.frozen 4
        clear y 
        go_wp2
        (try simp only [Exit.inBlock, Exit.then])
        refine bodyPost_ret (v := .agg #[.int .i64 (ckind (TD.two kind u v)), .int .i64 (cval (TD.two kind u v)), (.slice to tn tc), .int .i64 ((TD.two kind u v)).size, .string (str (showT (TD.two kind u v)))]) ?_ rfl ?_
        · simp [results, Tryz.results202, go_sem, z0, z1, z2, z3, z4]
        · exact HF.out
    · rw [sameT_ne huv]
      by_cases hk10 : kind = 10
      · subst hk10
        have a0 := X5.ru.cell (i := 0) rfl
        have a1 := X5.ru.cell (i := 1) rfl
        have a2 := X5.ru.cell (i := 2) rfl
        have a3 := X5.ru.cell (i := 3) rfl
        have a4 := X5.ru.cell (i := 4) rfl
        have c0 := X5.rv.cell (i := 0) rfl
        have c1 := X5.rv.cell (i := 1) rfl
        have c2 := X5.rv.cell (i := 2) rfl
        have c3 := X5.rv.cell (i := 3) rfl
        have c4 := X5.rv.cell (i := 4) rfl
        have q6 := cApart_any u v (.slice uo un uc) (.slice vo vn vc) fu fv w5 (HU.out.keep X5.keep) (HV.out.keep X5.keep)
        unfold termV at q6
        go_wp2_with fail
        refine q6.mono ?_
        rintro e w6 ⟨rfl, b6⟩
        have X6 := X5.next b6
        clear q6 a0 a1 a2 a3 a4 c0 c1 c2 c3 c4 b6 X5
        cases hap : apartT u v with
        | true =>
          have hrow : restT 10 u v = tnum 0 := rest_apart huv rfl hap
          have HP' := Lib.hid (HR.out _ hrow)
          have q7 := cOfNumber_any 0 (by constructor <;> decide) w6 (HT.out.keep X6.keep)
          unfold termV at q7
          go_wp2_with fail
          refine q7.mono ?_
          rintro e w7 ⟨rfl, b7⟩
          have X7 := X6.next b7
          have p7 : PartsAt Lo w7 (tnum 0) (.slice none 0 0) := HU.out.leaf X7.keep 100 0
          clear q7 b7 X6
          have y := X7.fin p7
          have HF := Lib.hid (HP'.out _ _ y.1 y.2)
          unfold termV set5 at HF
          have z0 := X7.rg.cell (i := 0) rfl
          have f0 := X7.rg.frozen 0
          have z1 := X7.rg.cell (i := 1) rfl
          have f1 := X7.rg.frozen 1
          have z2 := X7.rg.cell (i := 2) rfl
          have f2 := X7.rg.frozen 2
          have z3 := X7.rg.cell (i := 3) rfl
          have f3 := X7.rg.frozen 3
          have z4 := X7.rg.cell (i := 4) rfl
          have f4 := X7.rg.frozen 4
          clear y 
          go_wp2
          (try simp only [Exit.inBlock, Exit.then])
          refine bodyPost_ret (v := .agg #[.int .i64 (ckind (tnum 0)), .int .i64 (cval (tnum 0)), (.slice none 0 0), .int .i64 ((tnum 0)).size, .string (str (showT (tnum 0)))]) ?_ rfl ?_
          · simp [results, Tryz.results202, go_sem, z0, z1, z2, z3, z4]
          · exact HF.out
        | false =>
          have hrow : restT 10 u v = .two 10 u v := rest_else huv (fun q => by rw [hap] at q; cases q.2)
          have HP' := Lib.hid (HR.out _ hrow)
          have a0 := X6.ru.cell (i := 0) rfl
          have a1 := X6.ru.cell (i := 1) rfl
          have a2 := X6.ru.cell (i := 2) rfl
          have a3 := X6.ru.cell (i := 3) rfl
          have a4 := X6.ru.cell (i := 4) rfl
          have c0 := X6.rv.cell (i := 0) rfl
          have c1 := X6.rv.cell (i := 1) rfl
          have c2 := X6.rv.cell (i := 2) rfl
          have c3 := X6.rv.cell (i := 3) rfl
          have c4 := X6.rv.cell (i := 4) rfl
          have q9 := fun P => cOfTwo_cps 10 (by omega) u v (.slice uo un uc) (.slice vo vn vc) w6 (HU.out.keep X6.keep) (HV.out.keep X6.keep) fu fv (by omega) (by omega) P
          unfold termV at q9
          go_wp2_with fail
          refine q9 _ ?_
          intro pt w9 p9 b9
          have X9 := X6.next b9
          obtain ⟨to, tn, tc, rfl⟩ := p9.slice
          clear q9 a0 a1 a2 a3 a4 c0 c1 c2 c3 c4
          have y := X9.fin p9
          have HF := Lib.hid (HP'.out _ _ y.1 y.2)
          unfold termV set5 at HF
          have z0 := X9.rg.cell (i := 0) rfl
          have f0 := X9.rg.frozen 0
          have z1 := X9.rg.cell (i := 1) rfl
          have f1 := X9.rg.frozen 1
          have z2 := X9.rg.cell (i := 2) rfl
          have f2 := X9.rg.frozen 2
          have z3 := X9.rg.cell (i := 3) rfl
          have f3 := X9.rg.frozen 3
          have z4 := X9.rg.cell (i := 4) rfl
          have f4 := X9.rg.frozen 4
          clear y 
          go_wp2
          (try simp only [Exit.inBlock, Exit.then])
          refine bodyPost_ret (v := .agg #[.int .i64 (ckind (TD.two 10 u v)), .int .i64 (cval (TD.two 10 u v)), (.slice to tn tc), .int .i64 ((TD.two 10 u v)).size, .string (str (showT (TD.two 10 u v)))]) ?_ rfl ?_
          · simp [results, Tryz.results202, go_sem, z0, z1, z2, z3, z4]
          · exact HF.out
      · have hrow : restT kind u v = .two kind u v := rest_else huv (fun q => hk10 q.1)
        have HP' := Lib.hid (HR.out _ hrow)
        have hk3 : (kind == 10) = false := by simp [hk10]
        have a0 := X5.ru.cell (i := 0) rfl
        have a1 := X5.ru.cell (i := 1) rfl
        have a2 := X5.ru.cell (i := 2) rfl
        have a3 := X5.ru.cell (i := 3) rfl
        have a4 := X5.ru.cell (i := 4) rfl
        have c0 := X5.rv.cell (i := 0) rfl
        have c1 := X5.rv.cell (i := 1) rfl
        have c2 := X5.rv.cell (i := 2) rfl
        have c3 := X5.rv.cell (i := 3) rfl
        have c4 := X5.rv.cell (i := 4) rfl
        have q9 := fun P => cOfTwo_cps kind ⟨hk.1, by omega⟩ u v (.slice uo un uc) (.slice vo vn vc) w5 (HU.out.keep X5.keep) (HV.out.keep X5.keep) fu fv (by omega) (by omega) P
        unfold termV at q9
        go_wp2_with fail
        refine q9 _ ?_
        intro pt w9 p9 b9
        have X9 := X5.next b9
        obtain ⟨to, tn, tc, rfl⟩ := p9.slice
        clear q9 a0 a1 a2 a3 a4 c0 c1 c2 c3 c4
        have y := X9.fin p9
        have HF := Lib.hid (HP'.out _ _ y.1 y.2)
        unfold termV set5 at HF
        have z0 := X9.rg.cell (i := 0) rfl
        have f0 := X9.rg.frozen 0
        have z1 := X9.rg.cell (i := 1) rfl
        have f1 := X9.rg.frozen 1
        have z2 := X9.rg.cell (i := 2) rfl
        have f2 := X9.rg.frozen 2
        have z3 := X9.rg.cell (i := 3) rfl
        have f3 := X9.rg.frozen 3
        have z4 := X9.rg.cell (i := 4) rfl
        have f4 := X9.rg.frozen 4
        clear y 
        go_wp2
        (try simp only [Exit.inBlock, Exit.then])
        refine bodyPost_ret (v := .agg #[.int .i64 (ckind (TD.two kind u v)), .int .i64 (cval (TD.two kind u v)), (.slice to tn tc), .int .i64 ((TD.two kind u v)).size, .string (str (showT (TD.two kind u v)))]) ?_ rfl ?_
        · simp [results, Tryz.results202, go_sem, z0, z1, z2, z3, z4]
        · exact HF.out

theorem cInOrder_cps {Lo : Nat} (kind : Int) (hk : 3 ≤ kind ∧ kind ≤ 11) (u v : TD) (pu pv : Value) (w : World) (hu : PartsAt Lo w u pu) (hv : PartsAt Lo w v pv) (fu : u.fine) (fv : v.fine) (su : u.size ≤ 1000000000) (sv : v.size ≤ 1000000000) (ht : TabW w) (HW : WithC kind u) (Post : Ending → World → Prop)
    (hp : ∀ ps w', PartsAt Lo w' (rowT kind u v) ps → Below w.heap.size w w' → Post (.returned (termV (rowT kind u v) ps)) w') :
    Calls Tryz.prog 202 #[.int .i64 kind, termV u pu, termV v pv] w Post := by
  obtain ⟨uo, un, uc, rfl⟩ := hu.slice
  obtain ⟨vo, vn, vc, rfl⟩ := hv.slice
  cases hn : v.isNum with
  | some n => exact cInOrder_some kind hk u v uo vo un uc vn vc w hu hv fu fv su sv ht n hn HW Post hp
  | none =>
    rw [row_rest (isNum_bind_none hn)] at hp
    exact cInOrder_none kind hk u v uo vo un uc vn vc w hu hv fu fv su sv ht hn Post hp

end Go.Proofs.YtblhmeidbjigaaaGreatDoor

/- The code's terms: withNumber. -/
set_option linter.unusedSimpArgs false
set_option linter.unusedVariables false
namespace Go.Proofs.YtblhmeidbjigaaaGreatDoor
open Go.RowKit

/-- What Made answers of '+' and a number. -/
def AddC (a : TD) : Prop := ∀ ⦃Lo : Nat⦄ (pa : Value) (k : Int) (w : World) (Post : Ending → World → Prop), PartsAt Lo w a pa → W64 k → TabW w →
  (∀ ps w', PartsAt Lo w' (addN a k) ps → Below w.heap.size w w' → Post (.returned (termV (addN a k) ps)) w') →
  Calls Tryz.prog 188 #[.int .i64 3, termV a pa, termV (tnum k) (.slice none 0 0)] w Post

theorem keep5 {W V : World} {G : Nat} (h : Keep (fun k => k = G) W V) (a b c d e : Value) : Keep (fun k => k = G) W (((((V.setCell ⟨G, 0, none⟩ a).setCell ⟨G, 1, none⟩ b).setCell ⟨G, 2, none⟩ c).setCell ⟨G, 3, none⟩ d).setCell ⟨G, 4, none⟩ e) :=
  ((((h.setCell (p := ⟨G, 0, none⟩) (.inl rfl) a).setCell (p := ⟨G, 1, none⟩) (.inl rfl) b).setCell (p := ⟨G, 2, none⟩) (.inl rfl) c).setCell (p := ⟨G, 3, none⟩) (.inl rfl) d).setCell (p := ⟨G, 4, none⟩) (.inl rfl) e

theorem PartsAt.keepG {Lo : Nat} {W V : World} {G : Nat} {t : TD} {ps : Value} (h : PartsAt Lo W t ps) (hk : Keep (fun k => k = G) W V) {ty : TypeId} (hr : Row W G ty zT) : PartsAt Lo V t ps := by
  have key : ∀ (g : Nat) (ys : List Value), ys.length ≠ 5 → Row W g 119 ys → Row V g 119 ys := fun g ys hy r =>
    r.same (hk.block g r.lt (fun e => by have e' : g = G := e; subst e'; have := row_one r hr; rw [this] at hy; exact hy rfl))
  induction t generalizing ps with
  | leaf k n => exact ⟨h.1, Nat.le_trans h.2 hk.size⟩
  | two k a b iha ihb => obtain ⟨g, pa, pb, e, lg, r, h1, h2⟩ := h; exact ⟨g, pa, pb, e, lg, key g _ (by simp [tcells]) r, iha h1, ihb h2⟩
  | three k a b c iha ihb ihc => obtain ⟨g, pa, pb, pc, e, lg, r, h1, h2, h3⟩ := h; exact ⟨g, pa, pb, pc, e, lg, key g _ (by simp [tcells]) r, iha h1, ihb h2, ihc h3⟩

set_option maxRecDepth 100000 in
set_option maxHeartbeats 2000000 in
theorem cWith_sub (u : TD) (fu : u.fine) (HA : AddC u) : WithC 4 u := by
  intro Lo pu n w Post hu hn ht h1 h2
  have X0 := Box1.start w u pu
  have hbe : besideT 4 u n = some (addN u (wrap64 (0 - n))) := by simp [besideT]
  have eK : wrap64 (0 - n) = IntKind.i64.wrap (-n) := by simp only [wrap64, IntKind.wrap_i64, Int.zero_sub]
  have hK : W64 (wrap64 (0 - n)) := w64_wrap _
  rw [eK] at hbe hK
  have HP := Lib.hid (fun ps w' => h1 _ ps w' hbe)
  have HX := Lib.hid X0
  have HU := Lib.hid hu
  have HT := Lib.hid ht
  have HM := Lib.hid HA
  obtain ⟨uo, un, uc, rfl⟩ := hu.slice
  unfold termV
  clear h1 h2 X0 hu ht hbe HA hn eK
  go_enter Tryz.func209, Tryz.ntmps209
  go_wp2
  generalize hW : World.alloc _ _ = W
  have X : Box1 w W w.heap.size (w.heap.size + 1) u (.slice uo un uc) := by rw [← hW]; exact HX.out
  have rr := X.ru
  have rg := X.rg
  have hb := X.keep
  have hG : w.heap.size ≤ w.heap.size + 1 := by omega
  have hRG : ¬ (w.heap.size = w.heap.size + 1) := by omega
  have pA := HU.out.keep X.keep
  clear hW HX HU X
  have k0 : Keep (fun k => k = (w.heap.size + 1)) W W.drew := (Keep.refl _ _).below ((Below.refl W.heap.size W).drew) (Nat.le_refl _)
  have KR0 : Keep (fun k => k = (w.heap.size + 1)) W W.drew ∧ Row W.drew (w.heap.size + 1) 119 zT := ⟨k0, rg⟩
  have toB : ∀ V, Keep (fun k => k = (w.heap.size + 1)) W V → Below w.heap.size w V := fun V hk => hb.trans (hk.toBelow hb.size (fun k e => by have : k = (w.heap.size + 1) := e; omega))
  have SS : ∀ V, Keep (fun k => k = (w.heap.size + 1)) W V → Row V w.heap.size 119 (tcells u (.slice uo un uc)) := fun V hk => rr.same (hk.block _ rr.lt hRG)
  have PP : ∀ V, Keep (fun k => k = (w.heap.size + 1)) W V → PartsAt Lo V u (.slice uo un uc) := fun V hk => pA.keepG hk rg
  have d0 := fun V hk => (SS V hk).cell (i := 0) rfl
  have d1 := fun V hk => (SS V hk).cell (i := 1) rfl
  have d2 := fun V hk => (SS V hk).cell (i := 2) rfl
  have d3 := fun V hk => (SS V hk).cell (i := 3) rfl
  have d4 := fun V hk => (SS V hk).cell (i := 4) rfl
  have qn : ∀ V, (Keep (fun k => k = (w.heap.size + 1)) W V ∧ Row V (w.heap.size + 1) 119 zT) → Calls Tryz.prog 163 #[.int .i64 (IntKind.i64.wrap (-n))] V fun e w' => e = .returned (termV (tnum (IntKind.i64.wrap (-n))) (.slice none 0 0)) ∧ (Keep (fun k => k = (w.heap.size + 1)) W w' ∧ Row w' (w.heap.size + 1) 119 zT) := fun V hk =>
    (cOfNumber_any (IntKind.i64.wrap (-n)) hK V (HT.out.keep (toB V hk.1))).mono fun e w' h => ⟨h.1, hk.1.below h.2 hk.1.size, hk.2.keep h.2⟩
  have qm : ∀ V P, (Keep (fun k => k = (w.heap.size + 1)) W V ∧ Row V (w.heap.size + 1) 119 zT) → (∀ ps w', PartsAt Lo w' (addN u (IntKind.i64.wrap (-n))) ps → (Keep (fun k => k = (w.heap.size + 1)) W w' ∧ Row w' (w.heap.size + 1) 119 zT) → P (.returned (termV (addN u (IntKind.i64.wrap (-n))) ps)) w') → Calls Tryz.prog 188 #[.int .i64 3, termV u (.slice uo un uc), termV (tnum (IntKind.i64.wrap (-n))) (.slice none 0 0)] V P := fun V P hk h =>
    HM.out (.slice uo un uc) (IntKind.i64.wrap (-n)) V P (PP V hk.1) hK (HT.out.keep (toB V hk.1)) (fun ps w' p1 p2 => h ps w' p1 ⟨hk.1.below p2 hk.1.size, hk.2.keep p2⟩)
  have HB := Lib.hid toB
  have HGe := Lib.hid hG
  unfold termV at qn qm
  clear toB SS PP hb rr pA rg hRG hG HM
  go_region_held3 (fun V => Keep (fun k => k = (w.heap.size + 1)) W V) (first | exact hk2.1 | exact hk1.1 | with_reducible exact k0 | exact keep5 hk2.1 _ _ _ _ _) (first | (go_at_call 163; with_reducible refine (qn _ ?_).mono ?_; (first | exact KR0 | assumption); rintro e w1 ⟨rfl, hk1⟩) | (go_at_call 188; with_reducible refine qm _ _ ?_ ?_; (first | assumption | exact KR0); intro ps w2 p2 hk2; obtain ⟨to, tn, tc, rfl⟩ := p2.slice; have HF := Lib.hid (HP.out _ _ (p2.on5 hk2.2 rfl (.int .i64 (ckind (addN u (IntKind.i64.wrap (-n))))) (.int .i64 (cval (addN u (IntKind.i64.wrap (-n))))) (.slice to tn tc) (.int .i64 (addN u (IntKind.i64.wrap (-n))).size) (.string (str (showT (addN u (IntKind.i64.wrap (-n))))))) (set5_below (HB.out _ hk2.1) HGe.out _ _ _ _ _)); unfold termV set5 at HF; have z0 := hk2.2.cell (i := 0) rfl; have z1 := hk2.2.cell (i := 1) rfl; have z2 := hk2.2.cell (i := 2) rfl; have z3 := hk2.2.cell (i := 3) rfl; have z4 := hk2.2.cell (i := 4) rfl; have f0 := hk2.2.frozen 0; have f1 := hk2.2.frozen 1; have f2 := hk2.2.frozen 2; have f3 := hk2.2.frozen 3; have f4 := hk2.2.frozen 4))
  go_wp2
  (try simp only [Exit.inBlock, Exit.then])
  refine bodyPost_ret (v := .tuple #[.agg #[.int .i64 (ckind (addN u (IntKind.i64.wrap (-n)))), .int .i64 (cval (addN u (IntKind.i64.wrap (-n)))), (.slice to tn tc), .int .i64 ((addN u (IntKind.i64.wrap (-n)))).size, .string (str (showT (addN u (IntKind.i64.wrap (-n)))))], .bool true]) ?_ rfl ?_
  · simp [results, Tryz.results209, go_sem, z0, z1, z2, z3, z4]
  · exact HF.out

theorem beside_keeps {kind n : Int} {u : TD} (h : keepsT kind n = true) : besideT kind u n = some u := by
  simp only [keepsT, decide_eq_true_eq] at h
  rcases h with ⟨h1 | h1 | h1, h2⟩ | ⟨h1 | h1, h2⟩ | ⟨h1, h2⟩ <;> subst h1 <;> subst h2 <;> simp [besideT]

theorem beside_swallows {kind n : Int} {u : TD} (h : swallowsT kind n = true) : besideT kind u n = some (tnum n) := by
  simp only [swallowsT, decide_eq_true_eq] at h
  rcases h with ⟨h1 | h1, h2⟩ | ⟨h1, h2⟩ <;> subst h1 <;> subst h2 <;> simp [besideT]

theorem beside_else {kind n : Int} {u : TD} (hk : 3 ≤ kind ∧ kind ≤ 11) (h3 : kind ≠ 3) (h4 : kind ≠ 4) (h : keepsT kind n = false) (h' : swallowsT kind n = false) : besideT kind u n = none := by
  simp only [keepsT, swallowsT, decide_eq_false_iff_not] at h h'
  unfold besideT
  rw [if_neg h4, if_neg h3]
  by_cases h5 : kind = 5
  · rw [if_pos h5, if_neg (by omega), if_neg (by omega)]
  rw [if_neg h5]
  by_cases h6 : kind = 6
  · rw [if_pos h6, if_neg (by omega), if_neg (by omega)]
  rw [if_neg h6]
  by_cases h7 : kind = 7
  · rw [if_pos h7, if_neg (by omega), if_neg (by omega)]
  rw [if_neg h7]
  by_cases h8 : kind = 8
  · rw [if_pos h8, if_neg (by omega)]
  rw [if_neg h8]
  by_cases h11 : kind = 11
  · rw [if_pos h11, if_neg (by omega)]
  rw [if_neg h11]

theorem beside_sum {n : Int} {u : TD} (h : keepsT 3 n = false) : besideT 3 u n = u.isPlus.map fun p => addN p.1 (wrap64 (p.2 + n)) := by
  simp only [keepsT, decide_eq_false_iff_not] at h
  have hn : n ≠ 0 := fun e => by subst e; simp at h
  simp [besideT, hn]

set_option maxRecDepth 100000 in
set_option maxHeartbeats 2000000 in
theorem cWith_rest (kind : Int) (hk : 3 ≤ kind ∧ kind ≤ 11) (h4 : kind ≠ 4) (u : TD) (fu : u.fine) (H : ∀ a m, u = .two 3 a (tnum m) → AddC a) : WithC kind u := by
  intro Lo pu n w Post hu hn ht h1 h2
  have X0 := Box1.start w u pu
  obtain ⟨uo, un, uc, rfl⟩ := hu.slice
  have n4 : (kind == 4) = false := by simp [h4]
  have qk := fun V => cKeeps_any kind n hk V
  have qs := fun V => cSwallows_any kind n hk V
  have HX := Lib.hid X0
  have HU := Lib.hid hu
  have HT := Lib.hid ht
  have H1 := Lib.hid h1
  have H2 := Lib.hid h2
  have HK := Lib.hid (And.intro hk h4)
  unfold termV
  clear h1 h2 X0 hu ht h4
  cases hke : keepsT kind n with
  | true =>
    rw [hke] at qk
    have bb : Below w.heap.size w ((w.alloc (.cells #[.int .i64 (ckind u), .int .i64 (cval u), (.slice uo un uc), .int .i64 u.size, .string (str (showT u))] 119)).alloc (.cells #[.int .i64 (ckind u), .int .i64 (cval u), (.slice uo un uc), .int .i64 u.size, .string (str (showT u))] 119)) := ((Below.refl _ _).alloc (Nat.le_refl _) _).alloc (by simp) _
    have HF := Lib.hid (H1.out u (.slice uo un uc) _ (beside_keeps hke) (HU.out.keep bb) bb)
    unfold termV at HF
    clear H1 H2 HX HU HT HK bb hke qs H
    generalize str (showT u) = X1 at *
    generalize ckind u = ku at *
    generalize cval u = nu at *
    generalize u.size = zu at *
    go_enter Tryz.func209, Tryz.ntmps209
    go_wp2_with fail
    refine (qk _).mono ?_
    rintro e w1 ⟨rfl, rfl⟩
    go_wp2
    (try simp only [Exit.inBlock, Exit.then])
    refine bodyPost_ret (v := .tuple #[.agg #[.int .i64 ku, .int .i64 nu, .slice uo un uc, .int .i64 zu, .string X1], .bool true]) ?_ rfl ?_
    · simp [results, Tryz.results209, go_sem, reduceIte]
    · exact HF.out
  | false =>
    rw [hke] at qk
    cases hsw : swallowsT kind n with
    | true =>
      rw [hsw] at qs
      have qn := cOfNumber_any n hn _ (HT.out.keep HX.out.keep)
      have HP := Lib.hid (fun ps w' => H1.out (tnum n) ps w' (beside_swallows hsw))
      unfold termV at qn
      clear H1 H2 HK hke hsw H
      go_enter Tryz.func209, Tryz.ntmps209
      go_wp2_with fail
      refine (qk _).mono ?_
      rintro e w1 ⟨rfl, rfl⟩
      go_wp2_with fail
      refine (qs _).mono ?_
      rintro e w1 ⟨rfl, rfl⟩
      go_wp2_with fail
      refine qn.mono ?_
      rintro e w3 ⟨rfl, b3⟩
      have X := HX.out.next b3
      have y := X.fin (show PartsAt Lo w3 (tnum n) (.slice none 0 0) from HU.out.leaf X.keep 100 n)
      have HF := Lib.hid (HP.out _ _ y.1 y.2)
      unfold termV set5 at HF
      have z0 := X.rg.cell (i := 0) rfl
      have f0 := X.rg.frozen 0
      have z1 := X.rg.cell (i := 1) rfl
      have f1 := X.rg.frozen 1
      have z2 := X.rg.cell (i := 2) rfl
      have f2 := X.rg.frozen 2
      have z3 := X.rg.cell (i := 3) rfl
      have f3 := X.rg.frozen 3
      have z4 := X.rg.cell (i := 4) rfl
      have f4 := X.rg.frozen 4
      clear y X HX HP qn b3
      go_wp2
      (try simp only [Exit.inBlock, Exit.then])
      refine bodyPost_ret (v := .tuple #[.agg #[.int .i64 (ckind (tnum n)), .int .i64 (cval (tnum n)), .slice none 0 0, .int .i64 ((tnum n)).size, .string (str (showT (tnum n)))], .bool true]) ?_ rfl ?_
      · simp [results, Tryz.results209, go_sem, z0, z1, z2, z3, z4]
      · exact HF.out
    | false =>
      rw [hsw] at qs
      by_cases h3 : kind = 3
      · subst h3
        have hbe := beside_sum (u := u) hke
        have qm := fun P => cSum_cps u (.slice uo un uc) _ (HU.out.keep HX.out.keep) fu P
        unfold termV at qm
        clear HK hke hsw
        go_enter Tryz.func209, Tryz.ntmps209
        go_wp2_with fail
        refine (qk _).mono ?_
        rintro e w1 ⟨rfl, rfl⟩
        go_wp2_with fail
        refine (qs _).mono ?_
        rintro e w1 ⟨rfl, rfl⟩
        go_wp2_with fail
        refine qm _ ?_ ?_
        · intro a m pa w4 hpl p4 b4
          rw [hpl] at hbe
          have hK : W64 (wrap64 (m + n)) := w64_wrap _
          have HP := Lib.hid (fun ps w' => H1.out _ ps w' hbe)
          have HM := Lib.hid (H a m (isPlus_some hpl))
          obtain ⟨ao, an, ac, rfl⟩ := p4.slice
          have X4 := HX.out.next b4
          have X5 := X4.next ((Below.refl w4.heap.size w4).alloc (Nat.le_refl _) (.cells #[.int .i64 (ckind a), .int .i64 (cval a), (.slice ao an ac), .int .i64 a.size, .string (str (showT a))] 119))
          have rr0 : Row (w4.alloc (.cells #[.int .i64 (ckind a), .int .i64 (cval a), (.slice ao an ac), .int .i64 a.size, .string (str (showT a))] 119)) w4.heap.size 119 (tcells a (.slice ao an ac)) := heap_alloc_new w4 _
          have p5 := p4.keep ((Below.refl w4.heap.size w4).alloc (Nat.le_refl _) (.cells #[.int .i64 (ckind a), .int .i64 (cval a), (.slice ao an ac), .int .i64 a.size, .string (str (showT a))] 119))
          have hlt := X4.rg.lt
          have HZ := Lib.hid (And.intro X5 (And.intro rr0 p5))
          simp only [] at hK HP
          have eK : wrap64 (m + n) = IntKind.i64.wrap (m + n) := by simp only [wrap64, IntKind.wrap_i64]
          rw [eK] at hK HP
          clear hbe hpl H H1 H2 qm b4 p4 X4 X5 rr0 p5 HX HU eK
          go_wp2
          generalize hW : World.alloc _ _ = W
          have X : Box1 w W w.heap.size (w.heap.size + 1) u (.slice uo un uc) := by rw [← hW]; exact HZ.out.1
          have rr : Row W w4.heap.size 119 (tcells a (.slice ao an ac)) := by rw [← hW]; exact HZ.out.2.1
          have pA : PartsAt Lo W a (.slice ao an ac) := by rw [← hW]; exact HZ.out.2.2
          have rg := X.rg
          have hb := X.keep
          have hG : w.heap.size ≤ w.heap.size + 1 := by omega
          have hRG : ¬ (w4.heap.size = w.heap.size + 1) := by omega
          clear hW HZ X hlt
          have k0 : Keep (fun k => k = (w.heap.size + 1)) W W.drew := (Keep.refl _ _).below ((Below.refl W.heap.size W).drew) (Nat.le_refl _)
          have KR0 : Keep (fun k => k = (w.heap.size + 1)) W W.drew ∧ Row W.drew (w.heap.size + 1) 119 zT := ⟨k0, rg⟩
          have toB : ∀ V, Keep (fun k => k = (w.heap.size + 1)) W V → Below w.heap.size w V := fun V hk => hb.trans (hk.toBelow hb.size (fun k e => by have : k = (w.heap.size + 1) := e; omega))
          have SS : ∀ V, Keep (fun k => k = (w.heap.size + 1)) W V → Row V w4.heap.size 119 (tcells a (.slice ao an ac)) := fun V hk => rr.same (hk.block _ rr.lt hRG)
          have PP : ∀ V, Keep (fun k => k = (w.heap.size + 1)) W V → PartsAt Lo V a (.slice ao an ac) := fun V hk => pA.keepG hk rg
          have d0 := fun V hk => (SS V hk).cell (i := 0) rfl
          have d1 := fun V hk => (SS V hk).cell (i := 1) rfl
          have d2 := fun V hk => (SS V hk).cell (i := 2) rfl
          have d3 := fun V hk => (SS V hk).cell (i := 3) rfl
          have d4 := fun V hk => (SS V hk).cell (i := 4) rfl
          have qn : ∀ V, (Keep (fun k => k = (w.heap.size + 1)) W V ∧ Row V (w.heap.size + 1) 119 zT) → Calls Tryz.prog 163 #[.int .i64 (IntKind.i64.wrap (m + n))] V fun e w' => e = .returned (termV (tnum (IntKind.i64.wrap (m + n))) (.slice none 0 0)) ∧ (Keep (fun k => k = (w.heap.size + 1)) W w' ∧ Row w' (w.heap.size + 1) 119 zT) := fun V hk =>
            (cOfNumber_any (IntKind.i64.wrap (m + n)) hK V (HT.out.keep (toB V hk.1))).mono fun e w' h => ⟨h.1, hk.1.below h.2 hk.1.size, hk.2.keep h.2⟩
          have qm : ∀ V P, (Keep (fun k => k = (w.heap.size + 1)) W V ∧ Row V (w.heap.size + 1) 119 zT) → (∀ ps w', PartsAt Lo w' (addN a (IntKind.i64.wrap (m + n))) ps → (Keep (fun k => k = (w.heap.size + 1)) W w' ∧ Row w' (w.heap.size + 1) 119 zT) → P (.returned (termV (addN a (IntKind.i64.wrap (m + n))) ps)) w') → Calls Tryz.prog 188 #[.int .i64 3, termV a (.slice ao an ac), termV (tnum (IntKind.i64.wrap (m + n))) (.slice none 0 0)] V P := fun V P hk h =>
            HM.out (.slice ao an ac) (IntKind.i64.wrap (m + n)) V P (PP V hk.1) hK (HT.out.keep (toB V hk.1)) (fun ps w' p1 p2 => h ps w' p1 ⟨hk.1.below p2 hk.1.size, hk.2.keep p2⟩)
          have HB := Lib.hid toB
          have HGe := Lib.hid hG
          unfold termV at qn qm
          clear toB SS PP hb rr pA rg hRG hG HM
          go_region_held3 (fun V => Keep (fun k => k = (w.heap.size + 1)) W V) (first | exact hk2.1 | exact hk1.1 | with_reducible exact k0 | exact keep5 hk2.1 _ _ _ _ _) (first | (go_at_call 163; with_reducible refine (qn _ ?_).mono ?_; (first | exact KR0 | assumption); rintro e w1 ⟨rfl, hk1⟩) | (go_at_call 188; with_reducible refine qm _ _ ?_ ?_; (first | assumption | exact KR0); intro ps w2 p2 hk2; obtain ⟨to, tn, tc, rfl⟩ := p2.slice; have HF := Lib.hid (HP.out _ _ (p2.on5 hk2.2 rfl (.int .i64 (ckind (addN a (IntKind.i64.wrap (m + n))))) (.int .i64 (cval (addN a (IntKind.i64.wrap (m + n))))) (.slice to tn tc) (.int .i64 (addN a (IntKind.i64.wrap (m + n))).size) (.string (str (showT (addN a (IntKind.i64.wrap (m + n))))))) (set5_below (HB.out _ hk2.1) HGe.out _ _ _ _ _)); unfold termV set5 at HF; have z0 := hk2.2.cell (i := 0) rfl; have z1 := hk2.2.cell (i := 1) rfl; have z2 := hk2.2.cell (i := 2) rfl; have z3 := hk2.2.cell (i := 3) rfl; have z4 := hk2.2.cell (i := 4) rfl; have f0 := hk2.2.frozen 0; have f1 := hk2.2.frozen 1; have f2 := hk2.2.frozen 2; have f3 := hk2.2.frozen 3; have f4 := hk2.2.frozen 4))
          go_wp2
          (try simp only [Exit.inBlock, Exit.then])
          refine bodyPost_ret (v := .tuple #[.agg #[.int .i64 (ckind (addN a (IntKind.i64.wrap (m + n)))), .int .i64 (cval (addN a (IntKind.i64.wrap (m + n)))), (.slice to tn tc), .int .i64 ((addN a (IntKind.i64.wrap (m + n)))).size, .string (str (showT (addN a (IntKind.i64.wrap (m + n)))))], .bool true]) ?_ rfl ?_
          · simp [results, Tryz.results209, go_sem, z0, z1, z2, z3, z4]
          · exact HF.out
        · intro w4 hpl b4
          rw [hpl] at hbe
          have X4 := HX.out.next b4
          have X5 := X4.next ((Below.refl w4.heap.size w4).alloc (Nat.le_refl _) (.cells #[.int .i64 0, .int .i64 0, .slice none 0 0, .int .i64 0, .string ⟨#[]⟩] 119))
          have HF := Lib.hid (H2.out _ hbe (set5_below X5.keep X5.ge (.int .i64 0) (.int .i64 0) (.slice none 0 0) (.int .i64 0) (.string ⟨#[]⟩)))
          unfold set5 at HF
          have z0 := fun o => (X4.rg.alloc o).cell (i := 0) rfl
          have f0 := fun o => (X4.rg.alloc o).frozen 0
          have z1 := fun o => (X4.rg.alloc o).cell (i := 1) rfl
          have f1 := fun o => (X4.rg.alloc o).frozen 1
          have z2 := fun o => (X4.rg.alloc o).cell (i := 2) rfl
          have f2 := fun o => (X4.rg.alloc o).frozen 2
          have z3 := fun o => (X4.rg.alloc o).cell (i := 3) rfl
          have f3 := fun o => (X4.rg.alloc o).frozen 3
          have z4 := fun o => (X4.rg.alloc o).cell (i := 4) rfl
          have f4 := fun o => (X4.rg.alloc o).frozen 4
          clear hbe hpl H H1 H2 qm b4 X4 X5 HX HU
          go_wp2
          (try simp only [Exit.inBlock, Exit.then])
          refine bodyPost_ret (v := .tuple #[.agg #[.int .i64 0, .int .i64 0, .slice none 0 0, .int .i64 0, .string ⟨#[]⟩], .bool false]) ?_ rfl ?_
          · simp [results, Tryz.results209, go_sem, z0, z1, z2, z3, z4]
          · exact HF.out
      · have hbe := beside_else (u := u) HK.out.1 h3 HK.out.2 hke hsw
        have n3 : (kind == 3) = false := by simp [h3]
        have HF := Lib.hid (H2.out _ hbe HX.out.keep)
        clear H1 H2 HX HU HT HK hke hsw H hbe
        generalize str (showT u) = X1 at *
        generalize ckind u = ku at *
        generalize cval u = nu at *
        generalize u.size = zu at *
        go_enter Tryz.func209, Tryz.ntmps209
        go_wp2_with fail
        refine (qk _).mono ?_
        rintro e w1 ⟨rfl, rfl⟩
        go_wp2_with fail
        refine (qs _).mono ?_
        rintro e w1 ⟨rfl, rfl⟩
        go_wp2
        (try simp only [Exit.inBlock, Exit.then])
        refine bodyPost_ret (v := .tuple #[.agg #[.int .i64 0, .int .i64 0, .slice none 0 0, .int .i64 0, .string ⟨#[]⟩], .bool false]) ?_ rfl ?_
        · simp [results, Tryz.results209, go_sem, reduceIte]
        · exact HF.out

end Go.Proofs.YtblhmeidbjigaaaGreatDoor
