/- Comparing hints, in the laws. -/
import Derived.Test.YtblhmeidbjigaaaRows
import Derived.WalkKit
import Derived.WalkSpells
import Derived.WalkLawsBesides
import Derived.Laws.BytesArg
import Derived.Deep.QuietTactic
import Derived.BigQuiet
import Derived.Deep.RegionHeld3
import Derived.Test.YtblhmeidbjigaaaOwnToTxtHints

set_option linter.unusedSimpArgs false
set_option linter.unusedVariables false
namespace Go.Proofs.Ytblhmeidbjigaaa
open Go.RowKit

set_option maxRecDepth 100000 in
set_option maxHeartbeats 1000000 in
theorem samePairs_any (v u : Value) (ps : List PairD) (w : World) (hv : RdPairs w v ps) (hu : RdPairs w u ps) :
    Calls Try.prog 65 #[v, u] w fun e w' => e = .returned (.bool true) ∧ Below w.heap.size w w' := by
  obtain ⟨ao, cap, rfl, hl, hc⟩ := hv
  obtain ⟨bo, cap2, rfl, _, hd⟩ := hu
  go_enter Try.func65, Try.ntmps65
  go_wp2
  go_loopw [5] (fun i wr => ∃ (k : Nat), k ≤ ps.length ∧ i = .int .i64 k ∧ Below w.heap.size w wr)
    (fun i _ => ps.length - (intOf i).toNat)
  case atStart => exact ⟨0, Nat.zero_le _, rfl, Below.refl _ _⟩
  case round =>
    obtain ⟨k, hk, rfl, hbel⟩ := hrel
    by_cases hlt : k < ps.length
    · obtain ⟨b, off, rfl, c1, c2⟩ := hc k hlt
      obtain ⟨b', off', rfl, d1, d2⟩ := hd k hlt
      have e1 := cell_keep hbel c1
      have e2 := cell_keep hbel c2
      have e3 := cell_keep hbel d1
      have e4 := cell_keep hbel d2
      go_wp2
      go_quiet (fail)
      go_wp2
      go_roundw
      case rel => exact ⟨k + 1, by omega, by go_num, below_drewN hbel _⟩
      case measure => simp [intOf]; omega
    · go_wp2
      go_ret
      exact ⟨rfl, hbel⟩

set_option maxRecDepth 100000 in
set_option maxHeartbeats 1000000 in
theorem sameHint_any (v u : Value) (h : List PingD) (w : World) (hv : RdHint w v h) (hu : RdHint w u h) :
    Calls Try.prog 41 #[.agg #[v], .agg #[u]] w fun e w' => e = .returned (.bool true) ∧ Below w.heap.size w w' := by
  obtain ⟨ao, cap, rfl, hl, hc⟩ := hv
  obtain ⟨bo, cap2, rfl, _, hd⟩ := hu
  go_enter Try.func41, Try.ntmps41
  go_wp2
  go_loopw [5] (fun i wr => ∃ (k : Nat), k ≤ h.length ∧ i = .int .i64 k ∧ Below (w.heap.size + 2) ((w.alloc (.cells #[.slice ao h.length cap] 31)).alloc (.cells #[.slice bo h.length cap2] 31)) wr)
    (fun i _ => h.length - (intOf i).toNat)
  case atStart => exact ⟨0, Nat.zero_le _, rfl, Below.refl _ _⟩
  case round =>
    obtain ⟨k, hk, rfl, hbel⟩ := hrel
    have hb0 : Below w.heap.size w wr := (((Below.refl w.heap.size w).alloc (Nat.le_refl _) _).alloc (by simp) _).trans (hbel.mono (by omega))
    have x0 : wr.cell? ⟨w.heap.size, 0, none⟩ = some (.slice ao h.length cap) := (hbel.cell (by simp)).trans (by simp)
    have x1 : wr.cell? ⟨w.heap.size + 1, 0, none⟩ = some (.slice bo h.length cap2) := (hbel.cell (by simp)).trans (by simp)
    have hz := hbel.size
    simp at hz
    by_cases hlt : k < h.length
    · obtain ⟨b, off, sv, rfl, c1, c2, c3⟩ := hc k hlt
      obtain ⟨b', off', tv, rfl, d1, d2, d3⟩ := hd k hlt
      have e1 := cell_keep hb0 c1
      have e2 := cell_keep hb0 c2
      have e3 := cell_keep hb0 d1
      have e4 := cell_keep hb0 d2
      have r1 := c3.keep hb0
      have r2 := d3.keep hb0
      have q0 := fun x : Past wr.heap.size wr => x.cell x0
      have q1 := fun x : Past wr.heap.size wr => x.cell x1
      have q2 := fun x : Past wr.heap.size wr => x.cell e2
      have q3 := fun x : Past wr.heap.size wr => x.cell e4
      have np := Past.any wr.heap.size wr
      go_wp2
      refine wp_region_past wr.heap.size (by kernel_rfl) (by kernel_rfl) ?_
      repeat (go_big_quiet_step (exact Calls.past_of (Nat.le_refl _) (samePairs_any _ _ _ _ (r1.keep (Past.ok _)) (r2.keep (Past.ok _)))))
      refine wpQuiet_nil ?_
      rintro _ ⟨x, rfl⟩
      have y0 := x.cell x0
      have y1 := x.cell x1
      have y2 := x.cell e1
      have y3 := x.cell e3
      have hb1 := hbel.trans (x.ok.mono (by omega))
      generalize x.wd = w1 at *
      clear q0 q1 q2 q3 np
      go_wp2
      go_quiet (fail)
      go_wp2
      go_roundw
      case rel => exact ⟨k + 1, by omega, by go_num, below_drewN hb1 _⟩
      case measure => simp [intOf]; omega
    · go_wp2
      go_ret
      exact ⟨rfl, hb0⟩

end Go.Proofs.Ytblhmeidbjigaaa

/- Appending to a list of one's own: what was there stays. -/
set_option linter.unusedSimpArgs false
set_option linter.unusedVariables false
namespace Go.Proofs.Ytblhmeidbjigaaa
open Go.RowKit

section
variable {P : Program} (w : World)

theorem append_stay (base : Nat) (t ty e : TypeId) (i : TypeInfo) (z : Value) (size bytes : Nat) (ht : P.underlying t = some (.slice e)) (hi : P.info? e = some i) (hz : i.zero = some z)
    (hsize : i.size = size) (hby : i.bytes = bytes) (hzs : z.cells.size = size) (hsz : 0 < size)
    (v : Value) (n : Nat) (xs : List Value) (hown : w.ownsRow base e size v n xs)
    (a : Addr) (m c : Nat) (news : List Value) (hl : news.length = m * size) (hnews : ∀ j u, news[j]? = some u → w.cell? (a.add j) = some u) (h1 : ∀ u ∈ news, u.oneCell' = true)
    (h63 : n + m ≤ maxLen) (hbytes : (n + m) * bytes ≤ 140737488355328) (hbase : base ≤ w.heap.size) (hm : 0 < m) {v' : Value} {w' : World}
    (hrun : (Builtin.append_ #[t, t] ty #[v, .slice (some a) m c]).run P w = .ok v' w') :
    w'.ownsRow base e size v n xs ∧ (∀ g, v'.ownBlock = some g → v.ownBlock = some g ∨ w.heap.size ≤ g) := by
  subst hsize
  subst hby
  have hsmall : n + m ≤ 9223372036854775807 := by simp only [maxLen] at h63; omega
  rcases hown.2 with ⟨rfl, rfl⟩ | ⟨g, cap, cur, rfl, hbg, hg, hnc, hcm, hcs, htake⟩
  · have hx : xs = [] := List.eq_nil_of_length_eq_zero (by simpa using hown.1)
    subst hx
    have hr := run_append_nil (P := P) w t ty e i z ht hi hz a m c news hl hnews hm (by omega) (by have hb := hbytes; simp only [Nat.zero_add] at hb; omega)
    rw [hr] at hrun
    simp only [Result.ok.injEq] at hrun
    obtain ⟨rfl, rfl⟩ := hrun
    exact ⟨World.ownsRow_nil _ _ _ _, fun g hg => .inr (by simp [Value.ownBlock] at hg; omega)⟩
  · by_cases hroom : n + m ≤ cap
    · have hfit : n * i.size + news.length ≤ cur.size := by rw [hl, hcs, ← Nat.add_mul]; exact Nat.mul_le_mul_right _ hroom
      have hr := run_append_room (P := P) w t ty e i ht hi g n cap cur hg a m c news hl hnews h1 hroom hfit
      rw [hr] at hrun
      simp only [Result.ok.injEq] at hrun
      obtain ⟨rfl, rfl⟩ := hrun
      refine ⟨⟨hown.1, .inr ⟨g, cap, _, rfl, hbg, setRow_heap w g cur _ e _ hg, hnc, hcm, ?_, ?_⟩⟩, fun g' hg' => .inl hg'⟩
      · simp only [List.size_toArray, List.length_append, List.length_take, List.length_drop, Array.length_toList]
        omega
      · rw [htake, List.append_assoc, ← hown.1]
        exact List.take_left
    · have holds : ∀ j u, xs[j]? = some u → w.cell? ((⟨g, 0, none⟩ : Addr).add j) = some u := hown.cells (g := g) rfl
      have hr := run_append_grow (P := P) w t ty e i z ht hi hz ⟨g, 0, none⟩ n cap xs hown.1 holds a m c news hl hnews (by omega) (by omega) (growslice_fits (by omega) hbytes)
      rw [hr] at hrun
      simp only [Result.ok.injEq] at hrun
      obtain ⟨rfl, rfl⟩ := hrun
      refine ⟨?_, fun g' hg' => .inr (by simp [Value.ownBlock] at hg'; omega)⟩
      exact (World.ownsRow.drew hown).alloc _

theorem wpList_append_stay {ops : Array Oper} {rest : List Oper} {o : Oper} {a : Act} {Q : Exit → Act → World → Prop} (hgd : o.guard = none) (s x : Operand) (t : TypeId)
    (ho : o.op = .call { callee := .builtin .append, args := #[s, x], argTypes := #[t, t] })
    (base : Nat) (e : TypeId) (i : TypeInfo) (z : Value) (size bytes : Nat) (ht : P.underlying t = some (.slice e)) (hi : P.info? e = some i) (hz : i.zero = some z)
    (hsize : i.size = size) (hby : i.bytes = bytes) (hzs : z.cells.size = size) (hsz : 0 < size)
    (v : Value) (n : Nat) (xs : List Value) (hs : a.eval s = v) (hown : w.ownsRow base e size v n xs)
    (ad : Addr) (m c : Nat) (news : List Value) (hx : a.eval x = .slice (some ad) m c) (hl : news.length = m * size) (hnews : ∀ j u, news[j]? = some u → w.cell? (ad.add j) = some u) (h1 : ∀ u ∈ news, u.oneCell' = true)
    (h63 : n + m ≤ maxLen) (hbytes : (n + m) * bytes ≤ 140737488355328) (hbase : base ≤ w.heap.size) (hm : 0 < m)
    (h : ∀ v' w', w'.ownsRow base e size v' (n + m) (xs ++ news) → w.grownBy w' v.ownBlock → w'.ownsRow base e size v n xs → (∀ g, v'.ownBlock = some g → v.ownBlock = some g ∨ w.heap.size ≤ g) → wpList P ops Q rest (a.put o.dst v') w') : wpList P ops Q (o :: rest) a w := by
  refine wpList_plain hgd fun K hK => ?_
  obtain ⟨v', w', hr, h2, h3, h4⟩ := run_append_own (P := P) w base t o.type e i z size bytes ht hi hz hsize hby hzs hsz v n xs hown ad m c news hl hnews h1 h63 hbytes hbase
  obtain ⟨h5, h6⟩ := append_stay (P := P) w base t o.type e i z size bytes ht hi hz hsize hby hzs hsz v n xs hown ad m c news hl hnews h1 h63 hbytes hbase hm hr
  unfold Oper.wp execOp
  simp only [ho, resolve, invoke, builtin, Sem.run_bind, Sem.run_pure, Result.andThen_ok, List.map_toArray, List.map_cons, List.map_nil, hs, hx, hr]
  exact hK _ _ (h v' w' h2 h3 h5 h6)
end

/-- A row that is the beginning of another one in its block. -/
theorem owns_pre {w w' : World} {B B' : Nat} {e : TypeId} {sz : Nat} {v lv : Value} {n m : Nat} {xs ys t : List Value} (hsz : 0 < sz) (h : w.ownsRow B e sz v n xs) (hl : w.ownsRow B' e sz lv m ys) {g : Nat} (hg : v.ownBlock = some g) (hg' : lv.ownBlock = some g)
    (hl' : w'.ownsRow B' e sz lv m ys) (ht : ys = xs ++ t) : w'.ownsRow B e sz v n xs := by
  refine ⟨h.1, ?_⟩
  rcases h.2 with ⟨rfl, _⟩ | ⟨k, cap, cur, rfl, hk, hh, h1, h2, h3, h4⟩
  · simp [Value.ownBlock] at hg
  rcases hl.2 with ⟨rfl, _⟩ | ⟨k', cap', cur', rfl, hk', hh', g1, g2, g3, g4⟩
  · simp [Value.ownBlock] at hg'
  simp only [Value.ownBlock, Option.some.injEq] at hg hg'
  subst hg; subst hg'
  rw [hh] at hh'
  simp only [Option.some.injEq, Obj.cells.injEq, and_true] at hh'
  have hcur : cur = cur' := hh'
  subst hcur
  have hcap : cap = cap' := by
    have : cap * sz = cap' * sz := by rw [← h3, ← g3]
    exact Nat.eq_of_mul_eq_mul_right hsz this
  subst hcap
  rcases hl'.2 with ⟨hx, _⟩ | ⟨k2, cap2, cur2, hx, hk2, hh2, f1, f2, f3, f4⟩
  · simp at hx
  simp only [Value.slice.injEq, Option.some.injEq, Addr.mk.injEq, and_true, true_and] at hx
  obtain ⟨rfl, rfl⟩ := hx
  refine .inr ⟨_, _, cur2, rfl, hk, hh2, h1, h2, f3, ?_⟩
  have hnm : n * sz ≤ m * sz := by rw [← h.1, ← hl.1, ht]; simp
  have e1 : cur2.toList.take (n * sz) = (cur2.toList.take (m * sz)).take (n * sz) := by rw [List.take_take, Nat.min_eq_left hnm]
  rw [e1, f4, ht, ← h.1, List.take_left]

/-- Lists of hv that lie in lv's block are the beginning of what lv holds. -/
def PreP (hv : List (PingD × Value)) (lv : Value) (ys : List Value) : Prop := ∀ x ∈ hv, ∀ g, x.2.ownBlock = some g → lv.ownBlock = some g → ∃ t, ys = pairCells x.1.pairs ++ t

theorem OwnHint.app {w w' : World} {base : Nat} {v lv : Value} {hv : List (PingD × Value)} {m : Nat} {ys : List Value} (h : OwnHint w base v hv) (hl : w.ownsRow base 96 2 lv m ys) (hp : PreP hv lv ys)
    (hg : w.grownBy w' lv.ownBlock) (hl' : w'.ownsRow base 96 2 lv m ys) : OwnHint w' base v hv := by
  refine ⟨?_, ?_, h.apart⟩
  · refine h.row.kept hg ?_
    cases hb : v.ownBlock with
    | none => exact .inl rfl
    | some g => exact .inr (fun e => owns_apart h.row hl (by decide) g hb e.symm)
  · intro x hx
    cases hb : x.2.ownBlock with
    | none => exact (h.each x hx).kept hg (.inl hb)
    | some g =>
      by_cases e : lv.ownBlock = some g
      · obtain ⟨t, ht⟩ := hp x hx g hb e
        exact owns_pre (by decide) (h.each x hx) hl hb e hl' ht
      · exact (h.each x hx).kept hg (.inr (by rw [hb]; exact fun e' => e e'.symm))

theorem PreP.step {w : World} {base : Nat} {v lv lv' : Value} {hv : List (PingD × Value)} {ys news : List Value} (h : OwnHint w base v hv) (hp : PreP hv lv ys) (hf : ∀ g, lv'.ownBlock = some g → lv.ownBlock = some g ∨ w.heap.size ≤ g) : PreP hv lv' (ys ++ news) := by
  intro x hx g hg hg'
  rcases hf g hg' with e | e
  · obtain ⟨t, ht⟩ := hp x hx g hg e
    exact ⟨t ++ news, by rw [ht, List.append_assoc]⟩
  · have := ((h.each x hx).lt g hg).2
    omega

theorem PreP.start {w : World} {base : Nat} {v : Value} {hv : List (PingD × Value)} (h : OwnHint w base v hv) {i : Nat} (hi : i < hv.length) : PreP hv hv[i].2 (pairCells hv[i].1.pairs) := by
  intro x hx g hg hg'
  obtain ⟨j, hj, rfl⟩ := List.getElem_of_mem hx
  by_cases e : j = i
  · subst e; exact ⟨[], by simp⟩
  · exfalso
    rcases Nat.lt_or_gt_of_ne e with hlt | hgt
    · exact List.pairwise_iff_getElem.1 h.apart j i hj hi hlt g hg hg'
    · exact List.pairwise_iff_getElem.1 h.apart i j hi hj hgt g hg' hg

/-- The blocks' list, likewise. -/
theorem OwnHint.appOut {w w' : World} {base : Nat} {v lv : Value} {hv : List (PingD × Value)} {m : Nat} {ys : List Value} (h : OwnHint w base v hv) (hl : w.ownsRow base 94 2 lv m ys) (hp : ∀ g, v.ownBlock = some g → lv.ownBlock = some g → ∃ t, ys = pingCells hv ++ t)
    (hg : w.grownBy w' lv.ownBlock) (hl' : w'.ownsRow base 94 2 lv m ys) : OwnHint w' base v hv := by
  refine ⟨?_, ?_, h.apart⟩
  · cases hb : v.ownBlock with
    | none => exact h.row.kept hg (.inl hb)
    | some g =>
      by_cases e : lv.ownBlock = some g
      · obtain ⟨t, ht⟩ := hp g hb e
        exact owns_pre (by decide) h.row hl hb e hl' ht
      · exact h.row.kept hg (.inr (by rw [hb]; exact fun e' => e e'.symm))
  · intro x hx
    refine (h.each x hx).kept hg ?_
    cases hb : x.2.ownBlock with
    | none => exact .inl rfl
    | some g => exact .inr (fun e => owns_apart (h.each x hx) hl (by decide) g hb e.symm)

theorem owns_frozen {w : World} {B : Nat} {e : TypeId} {sz : Nat} {v : Value} {n : Nat} {xs : List Value} (h : w.ownsRow B e sz v n xs) {g : Nat} (hg : v.ownBlock = some g) (o : Nat) : w.frozen? ⟨g, o, none⟩ = false := by
  rcases h.2 with ⟨rfl, _⟩ | ⟨k, cap, cur, rfl, hk, hh, _⟩
  · simp [Value.ownBlock] at hg
  · simp only [Value.ownBlock, Option.some.injEq] at hg
    subst hg
    simp [World.frozen?, hh]

/-- The k-th block of a hint of one's own: its cells. -/
theorem ownHint_at {w : World} {base : Nat} {ao : Option Addr} {n cap : Nat} {hv : List (PingD × Value)} (h : OwnHint w base (.slice ao n cap) hv) {i : Nat} (hi : i < hv.length) :
    ∃ b, ao = some ⟨b, 0, none⟩ ∧ base ≤ b ∧ w.cell? ⟨b, i * 2, none⟩ = some (.int .i64 hv[i].1.src) ∧ w.cell? ⟨b, i * 2 + 1, none⟩ = some hv[i].2 ∧ ∀ o, w.frozen? ⟨b, o, none⟩ = false := by
  obtain ⟨ao', cap', hv'⟩ := owns_slice h.row
  simp only [Value.slice.injEq] at hv'
  obtain ⟨rfl, rfl, rfl⟩ := hv'
  have hl := pingCells_length hv
  obtain ⟨b, hao, hbs, hb, hc⟩ := owns_cell h.row rfl (i := i * 2) (by omega)
  obtain ⟨b', hao', _, hb', hc'⟩ := owns_cell h.row rfl (i := i * 2 + 1) (by omega)
  have : b = b' := by rw [hb] at hb'; simpa using hb'
  subst this
  obtain ⟨g1, g2⟩ := pingCells_get hv i hi
  refine ⟨b, hao, hbs, ?_, ?_, fun o => owns_frozen h.row hb o⟩
  · rw [hc]; rw [List.getElem?_eq_getElem (by omega)] at g1; exact g1
  · rw [hc']; rw [List.getElem?_eq_getElem (by omega)] at g2; exact g2

/-- The j-th pair of a list of one's own: its cells. -/
theorem owns_pairs_at {w : World} {base : Nat} {so : Option Addr} {n sc : Nat} {ps : List PairD} (h : w.ownsRow base 96 2 (.slice so n sc) ps.length (pairCells ps)) {j : Nat} (hj : j < ps.length) :
    ∃ b, so = some ⟨b, 0, none⟩ ∧ base ≤ b ∧ w.cell? ⟨b, j * 2, none⟩ = some (.int .i64 (preg ps j)) ∧ w.cell? ⟨b, j * 2 + 1, none⟩ = some (.int .i64 (pplace ps j)) ∧ ∀ o, w.frozen? ⟨b, o, none⟩ = false := by
  obtain ⟨ao', cap', hv'⟩ := owns_slice h
  simp only [Value.slice.injEq] at hv'
  obtain ⟨rfl, rfl, rfl⟩ := hv'
  have hl := pairCells_length ps
  obtain ⟨b, hao, hbs, hb, hc⟩ := owns_cell h rfl (i := j * 2) (by omega)
  obtain ⟨b', hao', _, hb', hc'⟩ := owns_cell h rfl (i := j * 2 + 1) (by omega)
  have : b = b' := by rw [hb] at hb'; simpa using hb'
  subst this
  obtain ⟨g1, g2⟩ := pairCells_get ps j hj
  refine ⟨b, hao, hbs, ?_, ?_, fun o => owns_frozen h hb o⟩
  · rw [hc]; rw [List.getElem?_eq_getElem (by omega)] at g1; exact g1
  · rw [hc']; rw [List.getElem?_eq_getElem (by omega)] at g2; exact g2

/-- What is laid behind the end. -/
def pad (l : List Value) : Nat → List Value
  | 0 => []
  | k + 1 => pad l k ++ l

end Go.Proofs.Ytblhmeidbjigaaa

/- Storing into a hint of one's own. -/
set_option linter.unusedSimpArgs false
set_option linter.unusedVariables false
namespace Go.Proofs.Ytblhmeidbjigaaa
open Go.RowKit

/-- What lay there has not turned, but for the blocks of S. -/
structure Keep (S : Nat → Prop) (w w' : World) : Prop where
  os : w'.os = w.os
  tape : w'.tape = w.tape
  output : w'.output = w.output
  size : w.heap.size ≤ w'.heap.size
  block : ∀ k, k < w.heap.size → ¬ S k → w'.heap[k]? = w.heap[k]?

theorem Keep.refl (S : Nat → Prop) (w : World) : Keep S w w := ⟨rfl, rfl, rfl, Nat.le_refl _, fun _ _ _ => rfl⟩

theorem Keep.step {S : Nat → Prop} {w a b : World} (h : Keep S w a) (hos : b.os = a.os) (ht : b.tape = a.tape) (ho : b.output = a.output) (hs : a.heap.size ≤ b.heap.size) (hb : ∀ k, k < w.heap.size → ¬ S k → b.heap[k]? = a.heap[k]?) : Keep S w b :=
  ⟨hos.trans h.os, ht.trans h.tape, ho.trans h.output, Nat.le_trans h.size hs, fun k hk hn => (hb k hk hn).trans (h.block k hk hn)⟩

theorem Keep.alloc {S : Nat → Prop} {w a : World} (h : Keep S w a) (o : Obj) : Keep S w (a.alloc o) :=
  h.step rfl rfl rfl (by simp) fun k hk _ => Below.heap_alloc _ _ _ (Nat.lt_of_lt_of_le hk h.size)

theorem Keep.setCell {S : Nat → Prop} {w a : World} (h : Keep S w a) {p : Addr} (hp : S p.block ∨ w.heap.size ≤ p.block) (u : Value) : Keep S w (a.setCell p u) :=
  h.step rfl rfl rfl (by simp) fun k hk hn => Below.heap_setCell _ _ _ _ (fun e => by subst e; rcases hp with hp | hp; exact hn hp; omega)

theorem Keep.grown {S : Nat → Prop} {w a b : World} {row : Option Nat} (h : Keep S w a) (hg : a.grownBy b row) (hr : ∀ g, row = some g → S g ∨ w.heap.size ≤ g) : Keep S w b :=
  h.step hg.os hg.tape hg.output hg.size fun k hk hn => hg.block k (Nat.lt_of_lt_of_le hk h.size) (fun e => by rcases hr k e.symm with hp | hp; exact hn hp; omega)

theorem Keep.below {S : Nat → Prop} {w a b : World} (h : Keep S w a) {B : Nat} (hb : Below B a b) (hB : w.heap.size ≤ B) : Keep S w b :=
  h.step hb.os hb.tape hb.output hb.size fun k hk _ => hb.block k (by omega)

theorem Keep.toBelow {S : Nat → Prop} {w a : World} (h : Keep S w a) {B : Nat} (hB : B ≤ w.heap.size) (hS : ∀ k, S k → B ≤ k) : Below B w a :=
  ⟨h.os, h.tape, h.output, h.size, fun k hk => h.block k (by omega) (fun hk' => by have := hS k hk'; omega)⟩

theorem Keep.cell {S : Nat → Prop} {w a : World} (h : Keep S w a) {b o : Nat} (hb : ¬ S b) {u : Value} (hc : w.cell? ⟨b, o, none⟩ = some u) : a.cell? ⟨b, o, none⟩ = some u :=
  (World.cell?_of_block (w := w) (h.block b (World.block_lt_of_cell? w _ hc) hb)).trans hc

theorem owns_set {w : World} {B : Nat} {e : TypeId} {sz : Nat} {v : Value} {n : Nat} {xs : List Value} (h : w.ownsRow B e sz v n xs) {g i : Nat} (hg : v.ownBlock = some g) (hi : i < xs.length) (u : Value) :
    (w.setCell ⟨g, i, none⟩ u).ownsRow B e sz v n (xs.set i u) := by
  refine ⟨by rw [List.length_set]; exact h.1, ?_⟩
  rcases h.2 with ⟨rfl, _⟩ | ⟨k, cap, cur, rfl, hk, hh, h1, h2, h3, h4⟩
  · simp [Value.ownBlock] at hg
  simp only [Value.ownBlock, Option.some.injEq] at hg
  subst hg
  refine .inr ⟨k, cap, cur.setIfInBounds i u, rfl, hk, heap_setCell_same w k i cur e u hh, h1, h2, by simpa using h3, ?_⟩
  rw [Array.toList_setIfInBounds, List.take_set, h4]

theorem owns_unset {w : World} {B : Nat} {e : TypeId} {sz : Nat} {v : Value} {n : Nat} {xs : List Value} (h : w.ownsRow B e sz v n xs) {g i : Nat} (hg : v.ownBlock ≠ some g) (u : Value) :
    (w.setCell ⟨g, i, none⟩ u).ownsRow B e sz v n xs :=
  owns_same h fun k hk => Below.heap_setCell _ _ _ _ (fun e => hg (by rw [hk, e]))

theorem pingCells_setSrc (hv : List (PingD × Value)) (i : Nat) (hi : i < hv.length) (x : Int) :
    pingCells (hv.set i (⟨x, hv[i].1.pairs⟩, hv[i].2)) = (pingCells hv).set (i * 2) (.int .i64 x) := by
  induction hv generalizing i with
  | nil => simp at hi
  | cons p r ih =>
    cases i with
    | zero => rfl
    | succ i =>
      have h := ih i (by simpa using hi)
      have e1 : (i + 1) * 2 = i * 2 + 1 + 1 := by omega
      rw [e1]
      show [_, _] ++ pingCells (r.set i _) = [_, _] ++ (pingCells r).set (i * 2) _
      rw [← h]
      rfl

theorem pairCells_set (ps : List PairD) (j : Nat) (hj : j < ps.length) (a b : Int) :
    pairCells (ps.set j ⟨a, b⟩) = ((pairCells ps).set (j * 2) (.int .i64 a)).set (j * 2 + 1) (.int .i64 b) := by
  induction ps generalizing j with
  | nil => simp at hj
  | cons p r ih =>
    cases j with
    | zero => rfl
    | succ j =>
      have h := ih j (by simpa using hj)
      have e1 : (j + 1) * 2 = j * 2 + 1 + 1 := by omega
      rw [e1]
      show [_, _] ++ pairCells (r.set j _) = [_, _] ++ ((pairCells r).set (j * 2) _).set (j * 2 + 1) _
      rw [← h]

theorem pingCells_setPairs (hv : List (PingD × Value)) (i : Nat) (hi : i < hv.length) (ps : List PairD) :
    pingCells (hv.set i (⟨hv[i].1.src, ps⟩, hv[i].2)) = pingCells hv := by
  induction hv generalizing i with
  | nil => simp at hi
  | cons p r ih =>
    cases i with
    | zero => rfl
    | succ i =>
      have h := ih i (by simpa using hi)
      show [_, _] ++ pingCells (r.set i _) = [_, _] ++ pingCells r
      rw [← h]
      rfl

theorem apart_set {hv : List (PingD × Value)} {i : Nat} (hi : i < hv.length) (x : PingD) (h : hv.Pairwise fun x y => ∀ g, x.2.ownBlock = some g → y.2.ownBlock ≠ some g) :
    (hv.set i (x, hv[i].2)).Pairwise fun x y => ∀ g, x.2.ownBlock = some g → y.2.ownBlock ≠ some g := by
  rw [List.pairwise_iff_getElem] at *
  have key : ∀ (j : Nat) (hj : j < (hv.set i (x, hv[i].2)).length), ((hv.set i (x, hv[i].2))[j]).2 = (hv[j]'(by simpa using hj)).2 := by
    intro j hj
    rw [List.getElem_set]
    split
    · rename_i e; subst e; rfl
    · rfl
  intro a b ha hb hab
  rw [key a ha, key b hb]
  exact h a b _ _ hab

theorem OwnHint.setSrc {w : World} {base : Nat} {b n cap : Nat} {hv : List (PingD × Value)} (h : OwnHint w base (.slice (some ⟨b, 0, none⟩) n cap) hv) {i : Nat} (hi : i < hv.length) (x : Int) :
    OwnHint (w.setCell ⟨b, i * 2, none⟩ (.int .i64 x)) base (.slice (some ⟨b, 0, none⟩) n cap) (hv.set i (⟨x, hv[i].1.pairs⟩, hv[i].2)) := by
  have hl := pingCells_length hv
  refine ⟨?_, ?_, apart_set hi _ h.apart⟩
  · rw [pingCells_setSrc hv i hi, List.length_set]
    exact owns_set h.row rfl (by omega) _
  · intro y hy
    have keep : ∀ x ∈ hv, (w.setCell ⟨b, i * 2, none⟩ (.int .i64 x.1.src)).ownsRow base 96 2 x.2 x.1.pairs.length (pairCells x.1.pairs) ∧ x.2.ownBlock ≠ some b := by
      intro x hx
      have hne : x.2.ownBlock ≠ some b := fun e => owns_apart h.row (h.each x hx) (by decide) b rfl e
      exact ⟨owns_unset (h.each x hx) hne _, hne⟩
    rcases List.mem_or_eq_of_mem_set hy with hy | rfl
    · exact owns_unset (h.each y hy) (keep y hy).2 _
    · exact owns_unset (h.each _ (List.getElem_mem hi)) (keep _ (List.getElem_mem hi)).2 _

theorem OwnHint.setPair {w : World} {base : Nat} {v : Value} {hv : List (PingD × Value)} (h : OwnHint w base v hv) {i j g : Nat} (hi : i < hv.length) (hg : hv[i].2.ownBlock = some g) (hj : j < hv[i].1.pairs.length) (x y : Int) :
    OwnHint ((w.setCell ⟨g, j * 2, none⟩ (.int .i64 x)).setCell ⟨g, j * 2 + 1, none⟩ (.int .i64 y)) base v (hv.set i (⟨hv[i].1.src, hv[i].1.pairs.set j ⟨x, y⟩⟩, hv[i].2)) := by
  have hl := pairCells_length hv[i].1.pairs
  have hri := h.each _ (List.getElem_mem hi)
  refine ⟨?_, ?_, apart_set hi _ h.apart⟩
  · rw [pingCells_setPairs hv i hi, List.length_set]
    have hne : v.ownBlock ≠ some g := fun e => owns_apart h.row hri (by decide) g e hg
    exact owns_unset (owns_unset h.row hne _) hne _
  · intro z hz
    obtain ⟨k, hk, rfl⟩ := List.getElem_of_mem hz
    have hk' : k < hv.length := by simpa using hk
    rw [List.getElem_set]
    split
    · show World.ownsRow _ base 96 2 hv[i].2 (hv[i].1.pairs.set j ⟨x, y⟩).length (pairCells (hv[i].1.pairs.set j ⟨x, y⟩))
      rw [pairCells_set _ _ hj, List.length_set]
      exact owns_set (owns_set hri hg (by omega) _) hg (by rw [List.length_set]; omega) _
    · rename_i hne
      have hb : hv[k].2.ownBlock ≠ some g := by
        intro e
        rcases Nat.lt_or_gt_of_ne hne with hlt | hgt
        · exact List.pairwise_iff_getElem.1 h.apart i k hi hk' hlt g hg e
        · exact List.pairwise_iff_getElem.1 h.apart k i hk' hi hgt g e hg
      exact owns_unset (owns_unset (h.each _ (List.getElem_mem hk')) hb _) hb _

end Go.Proofs.Ytblhmeidbjigaaa

/- Rows of memory as lists: made, copied into, written. -/
set_option linter.unusedSimpArgs false
set_option linter.unusedVariables false
namespace Go.Proofs.Ytblhmeidbjigaaa
open Go.RowKit

/-- Block g is a row of cells xs of type e, none frozen. -/
def Row (w : World) (g : Nat) (e : TypeId) (xs : List Value) : Prop := w.heap[g]? = some (.cells xs.toArray e (0, 0))

/-- Only block g may have turned; no block has come or gone. -/
structure Upd (g : Nat) (w w' : World) : Prop where
  os : w'.os = w.os
  tape : w'.tape = w.tape
  output : w'.output = w.output
  size : w'.heap.size = w.heap.size
  block : ∀ k, k ≠ g → w'.heap[k]? = w.heap[k]?

theorem Upd.below {g B : Nat} {w0 w w' : World} (h : Upd g w w') (hb : Below B w0 w) (hg : B ≤ g) : Below B w0 w' :=
  hb.trans ⟨h.os, h.tape, h.output, Nat.le_of_eq h.size.symm, fun k hk => h.block k (by omega)⟩

theorem Upd.cell {g : Nat} {w w' : World} (h : Upd g w w') {b o : Nat} (hb : b ≠ g) : w'.cell? ⟨b, o, none⟩ = w.cell? ⟨b, o, none⟩ := World.cell?_of_block (w := w) (h.block b hb)

theorem Row.cell {w : World} {g : Nat} {e : TypeId} {xs : List Value} (h : Row w g e xs) {i : Nat} {u : Value} (hi : xs[i]? = some u) : w.cell? ⟨g, i, none⟩ = some u := by
  unfold Row at h
  simp [World.cell?, h, hi]

theorem Row.frozen {w : World} {g : Nat} {e : TypeId} {xs : List Value} (h : Row w g e xs) (i : Nat) : w.frozen? ⟨g, i, none⟩ = false := by
  unfold Row at h
  simp [World.frozen?, h]

theorem Row.lt {w : World} {g : Nat} {e : TypeId} {xs : List Value} (h : Row w g e xs) : g < w.heap.size := (Array.getElem?_eq_some_iff.1 h).1

theorem Row.same {w w' : World} {g : Nat} {e : TypeId} {xs : List Value} (h : Row w g e xs) (hs : w'.heap[g]? = w.heap[g]?) : Row w' g e xs := hs.trans h

theorem Row.below {w w' : World} {g B : Nat} {e : TypeId} {xs : List Value} (h : Row w g e xs) (hb : Below B w w') (hg : g < B) : Row w' g e xs := h.same (hb.block g hg)

theorem Row.keep {w w' : World} {g : Nat} {e : TypeId} {xs : List Value} (h : Row w g e xs) (hb : Below w.heap.size w w') : Row w' g e xs := h.below hb h.lt

theorem Row.alloc {w : World} {g : Nat} {e : TypeId} {xs : List Value} (h : Row w g e xs) (o : Obj) : Row (w.alloc o) g e xs := h.same (Below.heap_alloc w o g h.lt)

theorem Row.set {w : World} {g : Nat} {e : TypeId} {xs : List Value} (h : Row w g e xs) (i : Nat) (u : Value) : Row (w.setCell ⟨g, i, none⟩ u) g e (xs.set i u) := by
  have := heap_setCell_same w g i xs.toArray e u h
  unfold Row
  rw [this]
  simp

theorem Row.unset {w : World} {g : Nat} {e : TypeId} {xs : List Value} (h : Row w g e xs) {a : Addr} (ha : g ≠ a.block) (u : Value) : Row (w.setCell a u) g e xs := h.same (Below.heap_setCell _ _ _ _ ha)

theorem pad_length (l : List Value) (n : Nat) : (pad l n).length = n * l.length := by
  induction n with
  | zero => simp [pad]
  | succ n ih => simp [pad, ih, Nat.add_mul]

theorem pad_get (l : List Value) (n i : Nat) (hi : i < n * l.length) : (pad l n)[i]? = l[i % l.length]? := by
  induction n with
  | zero => omega
  | succ n ih =>
    have hp := pad_length l n
    rw [pad]
    by_cases h : i < n * l.length
    · rw [List.getElem?_append_left (by omega), ih h]
    · rw [List.getElem?_append_right (by omega), hp]
      have h1 : i < n * l.length + l.length := by rw [Nat.add_mul, Nat.one_mul] at hi; exact hi
      have e : i % l.length = i - n * l.length := by
        have : i = (i - n * l.length) + l.length * n := by rw [Nat.mul_comm l.length n]; omega
        rw [this, Nat.add_mul_mod_self_left, Nat.mod_eq_of_lt (by omega)]
        rw [Nat.mul_comm l.length n]; omega
      rw [e]

theorem pad_cons (l : List Value) (n : Nat) : pad l (n + 1) = l ++ pad l n := by
  induction n with
  | zero => simp [pad]
  | succ n ih => rw [pad, ih, List.append_assoc, ← ih, pad]

theorem made_pad (l : List Value) (n : Nat) (hl : 0 < l.length) : madeCells l.toArray (n * l.length) = (pad l n).toArray := by
  apply Array.ext'
  apply List.ext_getElem?
  intro i
  by_cases hi : i < n * l.length
  · have hm : i % l.length < l.length := Nat.mod_lt _ hl
    show _ = (pad l n)[i]?
    rw [pad_get l n i hi]
    simp [madeCells, hi, hm]
  · have h1 : (pad l n).length ≤ i := by rw [pad_length]; omega
    show _ = (pad l n)[i]?
    rw [List.getElem?_eq_none h1]
    simp [madeCells]; omega

section
variable {P : Program} (w : World)

theorem wpList_make_row {ops : Array Oper} {rest : List Oper} {o : Oper} {a : Act} {Q : Exit → Act → World → Prop}
    (hg : o.guard = none) (l c : Operand) (t : TypeId) (hop : o.op = Op.makeSlice t l c)
    (e : TypeId) (i : TypeInfo) (z : Value) (zl : List Value) (h1 : P.underlying t = some (.slice e)) (h2 : P.info? e = some i) (h3 : i.zero = some z) (h4 : i.size = zl.length) (hz : z.cells = zl.toArray) (hzl : 0 < zl.length)
    (kl kc : IntKind) (L C : Int) (n : Nat) (hl : a.eval l = .int kl L) (hc : a.eval c = .int kc C) (hL : L = (n : Int)) (hC : C = (n : Int)) (b2 : i.bytes * n ≤ 281474976710656) (b3 : n ≤ maxLen)
    (hK : ∀ w', Row w' w.heap.size e (pad zl n) → Below w.heap.size w w' → Hid (w'.heap.size = w.heap.size + 1) → wpList P ops Q rest (a.put o.dst (.slice (some ⟨w.heap.size, 0, none⟩) n n)) w') :
    wpList P ops Q (o :: rest) a w := by
  refine wpList_plain hg fun K hK' => ?_
  have h63' : (n : Int) ≤ 9223372036854775807 := by
    have h := b3
    simp [maxLen] at h
    omega
  have hb' : (i.bytes : Int) * (n : Int) ≤ 281474976710656 := by
    have h : ((i.bytes * n : Nat) : Int) ≤ 281474976710656 := by omega
    rwa [Int.natCast_mul] at h
  have hr := run_make (P := P) w t e i z h1 h2 h3 kl kc n n (by omega) (Int.le_refl _) hb' h63'
  simp only [Int.toNat_natCast] at hr
  subst hL
  subst hC
  unfold Oper.wp
  simp [execOp, hop, hl, hc, hr, Result.andThen]
  refine hK' _ _ (hK _ ?_ ((Below.refl _ _).alloc (Nat.le_refl _) _) (by show _ = _; simp))
  unfold Row
  rw [heap_alloc_new, h4, hz, made_pad zl n hzl]

theorem wpList_copy_row {ops : Array Oper} {rest : List Oper} {o : Oper} {a : Act} {Q : Exit → Act → World → Prop} (hgd : o.guard = none) (d s : Operand) (t : TypeId)
    (ho : o.op = .call { callee := .builtin .copy, args := #[d, s], argTypes := #[t, t] }) (e : TypeId) (i : TypeInfo) (h1 : P.underlying t = some (.slice e)) (h2 : P.info? e = some i) (size : Nat) (h4 : i.size = size)
    (g dLen dCap : Nat) (so : Option Addr) (sLen sCap : Nat) (hd : a.eval d = .slice (some ⟨g, 0, none⟩) dLen dCap) (hs : a.eval s = .slice so sLen sCap)
    (xs : List Value) (hrow : Row w g e xs) (cs : List Value) (hn : cs.length = Nat.min sLen dLen * size) (hsrc : so = none → cs = []) (hsrc2 : ∀ ad, so = some ad → ∀ j v, cs[j]? = some v → w.cell? (ad.add j) = some v)
    (hfit : cs.length ≤ xs.length) (hone : ∀ v ∈ cs, v.oneCell' = true)
    (hK : ∀ w', Row w' g e (cs ++ xs.drop cs.length) → Upd g w w' → wpList P ops Q rest (a.put o.dst (goInt (Nat.min sLen dLen))) w') : wpList P ops Q (o :: rest) a w := by
  refine wpList_plain hgd fun K hK' => ?_
  have hst := run_storeCells_at P g 0 e cs 0 xs.toArray w hrow (by simpa using hfit) hone
  have hrun : (Builtin.copy_ #[t, t] o.type #[.slice (some ⟨g, 0, none⟩) dLen dCap, .slice so sLen sCap]).run P w = .ok (goInt (Nat.min sLen dLen)) (w.setRow g (cs ++ xs.drop cs.length).toArray) := by
    cases so with
    | none =>
      have hc := hsrc rfl
      subst hc
      have e0 : w.setRow g xs.toArray = w := setRow_self w g xs.toArray e (0, 0) hrow
      simp [Builtin.copy_, run_underlying h1, Builtin.lenOf, Builtin.firstCells, sizeOf, typeInfo, h2, storeCells, e0]
    | some ad =>
      have hl := run_firstCells_some (P := P) w size (Nat.min sLen dLen) ad sLen sCap cs hn (hsrc2 ad rfl)
      simp only [Nat.zero_add, List.take_zero, List.nil_append] at hst
      simp [Builtin.copy_, run_underlying h1, Builtin.lenOf, sizeOf, typeInfo, h2, h4, hl, hst]
  unfold Oper.wp
  simp [execOp, ho, resolve, invoke, builtin, hd, hs, hrun, Result.andThen]
  refine hK' _ _ (hK _ ?_ ⟨rfl, rfl, rfl, by simp, fun k hk => setRow_other w g k _ hk⟩)
  exact setRow_heap w g _ _ e _ hrow
end

end Go.Proofs.Ytblhmeidbjigaaa

/- A hint of its own with spare room behind each of its lists. -/
set_option linter.unusedSimpArgs false
set_option linter.unusedVariables false
namespace Go.Proofs.Ytblhmeidbjigaaa
open Go.RowKit

/-- Each of the lists lies in a row of its own, with a mark behind its end. -/
def Lies (w : World) (hv : List (PingD × Value)) : Prop := ∀ x ∈ hv, ∃ p, x.2 = .slice (some ⟨p, 0, none⟩) x.1.pairs.length (x.1.pairs.length + 1) ∧ Row w p 96 (pairCells x.1.pairs ++ [.int .i64 77, .int .i64 0])

def zPing : List Value := [.int .i64 0, .slice none 0 0]
def zPair : List Value := [.int .i64 0, .int .i64 0]

/-- The blocks' row, the first k blocks laid, n in all. -/
def lRow (hv : List (PingD × Value)) (n : Nat) : List Value := pingCells hv ++ pad zPing (n - hv.length)

theorem zPing_zero : (Value.agg #[.int .i64 0, .slice none 0 0]).cells = zPing.toArray := rfl
theorem zPair_zero : (Value.agg #[.int .i64 0, .int .i64 0]).cells = zPair.toArray := rfl

theorem lRow_get {hv : List (PingD × Value)} {n : Nat} (h : hv.length < n) : (lRow hv n)[hv.length * 2]? = some (.int .i64 0) ∧ (lRow hv n)[hv.length * 2 + 1]? = some (.slice none 0 0) := by
  have hl := pingCells_length hv
  unfold lRow
  obtain ⟨m, hm⟩ : ∃ m, n - hv.length = m + 1 := ⟨n - hv.length - 1, by omega⟩
  rw [hm, pad_cons]
  constructor
  · rw [List.getElem?_append_right (by omega), hl, Nat.sub_self]; rfl
  · rw [List.getElem?_append_right (by omega), hl, Nat.add_sub_cancel_left]; rfl

theorem lRow_set {hv : List (PingD × Value)} {n : Nat} (h : hv.length < n) (x : PingD) (sv : Value) :
    ((lRow hv n).set (hv.length * 2) (.int .i64 x.src)).set (hv.length * 2 + 1) sv = lRow (hv ++ [(x, sv)]) n := by
  have hl := pingCells_length hv
  unfold lRow
  obtain ⟨m, hm⟩ : ∃ m, n - hv.length = m + 1 := ⟨n - hv.length - 1, by omega⟩
  have hm2 : n - (hv ++ [(x, sv)]).length = m := by simp; omega
  rw [hm2, hm, pad_cons, pingCells_snoc]
  rw [List.set_append_right _ _ (by omega), hl, Nat.sub_self]
  rw [List.set_append_right _ _ (by omega), hl, Nat.add_sub_cancel_left]
  simp [zPing]

theorem pRow_set (ps : List PairD) : (pairCells ps ++ zPair).set (ps.length * 2) (.int .i64 77) = pairCells ps ++ [.int .i64 77, .int .i64 0] := by
  have hl := pairCells_length ps
  rw [List.set_append_right _ _ (by omega), hl, Nat.sub_self]
  rfl

theorem pRow_copy (ps : List PairD) : pairCells ps ++ (pad zPair (ps.length + 1)).drop (pairCells ps).length = pairCells ps ++ zPair := by
  have hl := pairCells_length ps
  have hp := pad_length zPair ps.length
  congr 1
  rw [pad, hl, List.drop_append]
  have e1 : zPair.length = 2 := rfl
  rw [e1] at hp
  rw [List.drop_of_length_le (by omega), hp, Nat.sub_self]
  rfl

theorem rd_none {w : World} {n sc : Nat} {ps : List PairD} {so : Option Addr} (h : RdPairs w (.slice so n sc) ps) : so = none → pairCells ps = [] := by
  obtain ⟨ao, cap, e, _, hc⟩ := h
  simp only [Value.slice.injEq] at e
  obtain ⟨rfl, rfl, rfl⟩ := e
  intro h0
  cases ps with
  | nil => rfl
  | cons p r =>
    obtain ⟨b, off, e, _⟩ := hc 0 (by simp)
    rw [h0] at e
    cases e

theorem rd_cells {w : World} {n sc : Nat} {ps : List PairD} {so : Option Addr} (h : RdPairs w (.slice so n sc) ps) : ∀ ad, so = some ad → ∀ j u, (pairCells ps)[j]? = some u → w.cell? (ad.add j) = some u := by
  obtain ⟨ao, cap, e, _, hc⟩ := h
  simp only [Value.slice.injEq] at e
  obtain ⟨rfl, rfl, rfl⟩ := e
  intro ad had j u hj
  have hl := pairCells_length ps
  have hjl : j < (pairCells ps).length := (List.getElem?_eq_some_iff.1 hj).1
  obtain ⟨b, off, e, c1, c2⟩ := hc (j / 2) (by omega)
  rw [had] at e
  obtain rfl := Option.some.inj e
  obtain ⟨g1, g2⟩ := pairCells_get ps (j / 2) (by omega)
  rw [Addr.add_lit]
  rcases Nat.mod_two_eq_zero_or_one j with hm | hm
  · have ej : j / 2 * 2 = j := by omega
    rw [ej] at g1 c1
    rw [c1, ← g1, hj]
  · have ej : j / 2 * 2 + 1 = j := by omega
    rw [ej] at g2
    rw [Nat.add_assoc, ej] at c2
    rw [c2, ← g2, hj]

theorem ints_one (ps : List PairD) : ∀ u ∈ pairCells ps, u.oneCell' = true := by
  intro u hu
  simp only [pairCells, List.mem_flatMap] at hu
  obtain ⟨p, _, hp⟩ := hu
  simp at hp
  rcases hp with rfl | rfl <;> rfl

theorem lies_step {w w' : World} {hv : List (PingD × Value)} (h : Lies w hv) (hs : ∀ p xs, Row w p 96 xs → Row w' p 96 xs) : Lies w' hv :=
  fun x hx => let ⟨p, e, hp⟩ := h x hx; ⟨p, e, hs p _ hp⟩

theorem row_apart {w : World} {g g' : Nat} {e e' : TypeId} {xs ys : List Value} (h : Row w g e xs) (h' : Row w g' e' ys) (he : e ≠ e') : g ≠ g' := by
  intro e0
  subst e0
  unfold Row at h h'
  rw [h] at h'
  simp at h'
  exact he h'.2

set_option maxRecDepth 100000 in
set_option maxHeartbeats 4000000 in
theorem roomyHint_cps (v : Value) (h : List PingD) (w : World) (hr : RdHint w v h) (hn : h.length ≤ 4398046511104) (hn2 : ∀ k, k < h.length → (hpairs h k).length ≤ 8796093022208) (Post : Ending → World → Prop)
    (hyes : ∀ w' hv L D, hdat hv = h → Lies w' hv → Row w' L 94 (pingCells hv ++ [.int .i64 77, .slice none 0 0]) → Row w' D 94 (pingCells hv) → Below w.heap.size w w' →
      Post (.returned (.tuple #[.agg #[.slice (some ⟨L, 0, none⟩) hv.length (hv.length + 1)], .slice (some ⟨D, 0, none⟩) hv.length hv.length])) w') :
    Calls Try.prog 36 #[.agg #[v]] w Post := by
  obtain ⟨i0, ii, iz0, iz1, iz2⟩ := info_parts Try.infoPing
  obtain ⟨j0, ji, jz0, jz1, jz2⟩ := info_parts Try.infoPair
  have hr0 := hr
  obtain ⟨ao, cap, rfl, hl, hc⟩ := hr
  go_enter Try.func36, Try.ntmps36
  go_wp2_with (at_make; refine wpList_make_row _ rfl _ _ 29 rfl 94 i0 _ zPing Try.underlying29 ii iz0 iz1 zPing_zero (by decide) _ _ _ _ (h.length + 1) rfl rfl (by simp) (by simp) ?c1 ?c2 ?_)
  case c1 => first | omega | (rw [iz2]; omega)
  case c2 => unfold maxLen; omega
  intro w1 hL hb1 hz1
  go_wp2
  have hz1' := hz1.out
  try simp only [World.size_alloc] at hb1 hL hz1'
  have hLz : Hid (w.heap.size + 1 + 1 = w.heap.size + 2) := rfl
  clear hz1
  obtain ⟨L, hLe⟩ : ∃ L, L = w.heap.size + 1 + 1 := ⟨_, rfl⟩
  rw [← hLe] at hL hb1 hz1' ⊢
  have HL : Hid (L = w.heap.size + 2) := hLe
  have hLlt : w.heap.size + 1 < L := by omega
  have hb1' : Below (w.heap.size + 2) ((w.alloc (.cells #[.slice ao h.length cap] 31)).alloc (.cells #[.slice none 0 0] 31)) w1 := hb1.mono (by omega)
  clear hLe
  go_loopw [6] (fun i wr => ∃ (k : Nat) (hv : List (PingD × Value)), k ≤ h.length ∧ i = .int .i64 k ∧ Hid (hv.length = k) ∧ Hid (hdat hv = h.take k) ∧ Lies wr hv ∧ Row wr L 94 (lRow hv (h.length + 1)) ∧
      Below (w.heap.size + 2) ((w.alloc (.cells #[.slice ao h.length cap] 31)).alloc (.cells #[.slice none 0 0] 31)) wr)
    (fun i _ => h.length - (intOf i).toNat)
  case atStart => exact ⟨0, [], Nat.zero_le _, rfl, rfl, rfl, fun x hx => by simp at hx, by simpa [lRow, pingCells] using hL, hb1'⟩
  case round =>
    clear hL hb1 hz1' hb1' w1
    obtain ⟨k, hv, hk, rfl, hvl, hdt, hlies, hL, hbel⟩ := hrel
    have hb0 : Below w.heap.size w wr := (((Below.refl w.heap.size w).alloc (Nat.le_refl _) _).alloc (by simp) _).trans (hbel.mono (by omega))
    have x0 : wr.cell? ⟨w.heap.size, 0, none⟩ = some (.slice ao h.length cap) := (hbel.cell (by simp)).trans (by simp)
    have x1 : wr.cell? ⟨w.heap.size + 1, 0, none⟩ = some (.slice none 0 0) := (hbel.cell (by simp)).trans (by simp)
    have xf : wr.frozen? ⟨w.heap.size + 1, 0, none⟩ = false := (hbel.frozen (by simp)).trans (by simp)
    have hz := hbel.size
    simp at hz
    have hLw := hL.lt
    by_cases hlt : k < h.length
    case neg =>
      obtain rfl : k = h.length := by omega
      have hkv : hv.length < h.length + 1 := by have := hvl.out; omega
      have l0 := hL.cell (lRow_get hkv).1
      rw [hvl.out] at l0
      have lf0 := hL.frozen (h.length * 2)
      have hL2 := hL.set (hv.length * 2) (.int .i64 77)
      have e7 : (lRow hv (h.length + 1)).set (hv.length * 2) (.int .i64 77) = pingCells hv ++ [.int .i64 77, .slice none 0 0] := by
        have hl := pingCells_length hv
        have hp : h.length + 1 - hv.length = 1 := by have := hvl.out; omega
        unfold lRow
        rw [hp, List.set_append_right _ _ (by omega), hl, Nat.sub_self]
        rfl
      rw [e7, hvl.out] at hL2
      have hlies2 : Lies (wr.setCell ⟨L, h.length * 2, none⟩ (.int .i64 77)) hv := lies_step hlies fun p xs hp => hp.unset (a := ⟨L, _, none⟩) (row_apart hp hL (by decide)) _
      have hb2 := hbel.setCell (p := ⟨L, h.length * 2, none⟩) (by show _ ≤ L; omega) (.int .i64 77)
      have y1 : (wr.setCell ⟨L, h.length * 2, none⟩ (.int .i64 77)).cell? ⟨w.heap.size + 1, 0, none⟩ = some (.slice none 0 0) := cell_unset (by simp) x1
      have yf : (wr.setCell ⟨L, h.length * 2, none⟩ (.int .i64 77)).frozen? ⟨w.heap.size + 1, 0, none⟩ = false := by simpa using xf
      have hzs : (wr.setCell ⟨L, h.length * 2, none⟩ (.int .i64 77)).heap.size = wr.heap.size := by simp
      have hone : ∀ u ∈ pingCells hv, u.oneCell' = true := by
        intro u hu
        simp only [pingCells, List.mem_flatMap] at hu
        obtain ⟨x, hx, hp⟩ := hu
        obtain ⟨p, e, _⟩ := hlies x hx
        simp at hp
        rcases hp with rfl | rfl
        · rfl
        · rw [e]; rfl
      have hdt' : Hid (hdat hv = h) := by have := hdt.out; rw [List.take_length] at this; exact this
      go_wp2_with (at_make; refine wpList_make_row _ rfl _ _ 29 rfl 94 i0 _ zPing Try.underlying29 ii iz0 iz1 zPing_zero (by decide) _ _ _ _ h.length rfl rfl (by simp) (by simp) ?k1 ?k2 ?_)
      case k1 => first | omega | (rw [iz2]; omega)
      case k2 => unfold maxLen; omega
      intro w2 hD hb3 hz3
      try rw [hzs] at hD
      try rw [hzs] at hb3
      generalize hwe : wr.setCell ⟨L, h.length * 2, none⟩ (.int .i64 77) = we at *
      have hws : wr.heap.size = we.heap.size := hzs.symm
      obtain ⟨D, hDe⟩ : ∃ D, D = wr.heap.size := ⟨_, rfl⟩
      have hLD : L < D := by omega
      have hwD : w.heap.size + 1 < D := by omega
      have hDn : D ≠ w.heap.size + 1 := by omega
      have hL3 := hL2.below hb3 (by omega)
      have hlies3 : Lies w2 hv := lies_step hlies2 fun p xs hp => hp.below hb3 (by have := hp.lt; omega)
      have z1 := (hb3.cell (p := ⟨w.heap.size + 1, 0, none⟩) (by show w.heap.size + 1 < _; omega)).trans y1
      have zf := (hb3.frozen (p := ⟨w.heap.size + 1, 0, none⟩) (by show w.heap.size + 1 < _; omega)).trans yf
      have hb4 := hb2.trans (hb3.mono (by omega))
      rw [← hDe] at hD ⊢
      clear hwe hzs hws hb3 hz3 hDe x0 x1 xf l0 lf0 hb0 hlies hlies2 hL hL2 hb2 y1 yf hbel hz hLw
      have hsrc : ∀ ad, some (⟨L, 0, none⟩ : Addr) = some ad → ∀ j u, (pingCells hv)[j]? = some u → w2.cell? (ad.add j) = some u := by
        intro ad had j u hj
        obtain rfl := Option.some.inj had
        rw [Addr.add_lit, Nat.zero_add]
        exact hL3.cell (by rw [List.getElem?_append_left (List.getElem?_eq_some_iff.1 hj).1]; exact hj)
      go_wp2_with (refine wpList_copy_row _ rfl (.tmp 66) (.tmp 67) 29 rfl 94 i0 Try.underlying29 ii 2 iz1 D _ _ (some ⟨L, 0, none⟩) _ _ rfl rfl _ hD (pingCells hv) ?m1 (by intro h; cases h) hsrc ?m2 hone ?_)
      case m1 => rw [pingCells_length, hvl.out, show (h.length + 1).min h.length = h.length from Nat.min_eq_right (by omega)]
      case m2 => rw [pingCells_length, pad_length, hvl.out]; simp [zPing]
      intro w3 hD3 hu3
      have e8 : pingCells hv ++ (pad zPing h.length).drop (pingCells hv).length = pingCells hv := by
        rw [List.drop_of_length_le (by rw [pad_length, pingCells_length, hvl.out]; simp [zPing]), List.append_nil]
      rw [e8] at hD3
      have hL4 := hL3.same (hu3.block L (by omega))
      have hlies4 : Lies w3 hv := lies_step hlies3 fun p xs hp => hp.same (hu3.block p (row_apart hp hD (by decide)))
      have t1 := (hu3.cell (b := w.heap.size + 1) (o := 0) (by omega)).trans z1
      have tf : w3.frozen? ⟨w.heap.size + 1, 0, none⟩ = false := (World.frozen?_of_block (w := w2) (hu3.block (w.heap.size + 1) (by omega))).trans zf
      have hb5 := hu3.below hb4 (by omega)
      have hb6 : Below w.heap.size w w3 := (((Below.refl w.heap.size w).alloc (Nat.le_refl _) _).alloc (by simp) _).trans (hb5.mono (by omega))
      have hR : Row w3 (w.heap.size + 1) 31 [.slice none 0 0] := (hb5.block (w.heap.size + 1) (by omega)).trans (heap_alloc2_new w _ _)
      have hfin := hyes (w3.setCell ⟨w.heap.size + 1, 0, none⟩ (.slice (some ⟨L, 0, none⟩) h.length (h.length + 1))) hv L D hdt'.out (lies_step hlies4 fun p xs hp => hp.unset (a := ⟨w.heap.size + 1, 0, none⟩) (row_apart hp hR (by decide)) _) (hL4.unset (a := ⟨w.heap.size + 1, 0, none⟩) (by show L ≠ w.heap.size + 1; omega) _) (hD3.unset (a := ⟨w.heap.size + 1, 0, none⟩) hDn _) (hb6.setCell (by simp) _)
      rw [hvl.out] at hfin
      clear hyes hlies4 hL4 hD3 hb6 hb5 hR hu3 hD hL3 hlies3 hsrc hone hb4
      go_wp2
      refine bodyPost_ret (v := .tuple #[.agg #[.slice (some ⟨L, 0, none⟩) h.length (h.length + 1)], .slice (some ⟨D, 0, none⟩) h.length h.length]) (by simp [results, Try.results36, go_sem, t1]) rfl ?_
      exact hfin
    obtain ⟨b, off, sv, rfl, c1, c2, c3⟩ := hc k hlt
    have d1 := cell_keep hb0 c1
    have d2 := cell_keep hb0 c2
    have d3 := c3.keep hb0
    have hbw : b < w.heap.size := World.block_lt_of_cell? _ _ c1
    have hm := hn2 k hlt
    obtain ⟨so, sc, e3, _, _⟩ := id d3
    subst e3
    go_wp2_with (first | (at_make; refine wpList_make_row _ rfl _ _ 92 rfl 96 j0 _ zPair Try.underlying92 ji jz0 jz1 zPair_zero (by decide) _ _ _ _ ((hpairs h k).length + 1) rfl rfl (by simp) (by simp) ?e1 ?e2 ?_))
    case e1 => first | omega | (rw [jz2]; omega)
    case e2 => unfold maxLen; omega
    intro w2 hP hb2 hz2
    obtain ⟨P, hPe⟩ : ∃ P, P = wr.heap.size := ⟨_, rfl⟩
    have hz2' := hz2.out
    have hb2w := hb2
    rw [← hPe] at hP hb2 hz2' ⊢
    clear hz2
    have hLP : L < P := by omega
    have hwP : w.heap.size + 1 < P := by omega
    have hbP : b < P := by omega
    have hLb : b < L := by omega
    have HP : Hid (P = wr.heap.size) := hPe
    clear hPe
    have f0 := (hb2.cell (p := ⟨w.heap.size, 0, none⟩) (by show w.heap.size < P; omega)).trans x0
    have f1 := (hb2.cell (p := ⟨b, off + k * 2, none⟩) (by show b < P; omega)).trans d1
    have f2 := (hb2.cell (p := ⟨b, off + k * 2 + 1, none⟩) (by show b < P; omega)).trans d2
    have f3 := d3.keep hb2w
    go_wp2_with (refine wpList_copy_row _ rfl (.tmp 31) (.tmp 37) 92 rfl 96 j0 Try.underlying92 ji 2 jz1 P _ _ so _ _ rfl rfl _ hP (pairCells (hpairs h k)) ?g1 (rd_none f3) (rd_cells f3) ?g2 (ints_one _) ?_)
    case g1 => rw [pairCells_length, show (hpairs h k).length.min ((hpairs h k).length + 1) = (hpairs h k).length from Nat.min_eq_left (by omega)]
    case g2 => rw [pairCells_length, pad_length]; simp [zPair]; omega
    intro w3 hP3 hu3
    rw [pRow_copy] at hP3
    have hL3 : Row w3 L 94 (lRow hv (h.length + 1)) := (hL.below hb2 hLP).same (hu3.block L (by omega))
    have p0 := hP3.cell (i := (hpairs h k).length * 2) (u := .int .i64 0) (by rw [List.getElem?_append_right (by rw [pairCells_length]; omega), pairCells_length, Nat.sub_self]; rfl)
    have pf := hP3.frozen ((hpairs h k).length * 2)
    have hkv : hv.length < h.length + 1 := by have := hvl.out; omega
    have l0 := hL3.cell (lRow_get hkv).1
    have l1 := hL3.cell (lRow_get hkv).2
    rw [hvl.out] at l0 l1
    have lf0 := hL3.frozen (k * 2)
    have lf1 := hL3.frozen (k * 2 + 1)
    have g0 := (hu3.cell (b := w.heap.size) (o := 0) (by omega)).trans f0
    have g1' := (hu3.cell (b := b) (o := off + k * 2) (by omega)).trans f1
    have g2' := (hu3.cell (b := b) (o := off + k * 2 + 1) (by omega)).trans f2
    have hb3 : Below (w.heap.size + 2) ((w.alloc (.cells #[.slice (some ⟨b, off, none⟩) h.length cap] 31)).alloc (.cells #[.slice none 0 0] 31)) w3 := hu3.below (hbel.trans (hb2.mono (by omega))) (by omega)
    have hPL : P ≠ L := by omega
    have hnP : L ≠ P := by omega
    clear hb2w f0 f1 f2 f3 x0 d1 d2
    have q1 := hP3.set ((hpairs h k).length * 2) (.int .i64 77)
    rw [pRow_set] at q1
    have q2 := (q1.unset (a := ⟨L, k * 2, none⟩) hPL (.int .i64 (hsrc h k))).unset (a := ⟨L, k * 2 + 1, none⟩) hPL (.slice (some ⟨P, 0, none⟩) (hpairs h k).length ((hpairs h k).length + 1))
    have q3 := ((hL3.unset (a := ⟨P, (hpairs h k).length * 2, none⟩) hnP (.int .i64 77)).set (hv.length * 2) (.int .i64 (hsrc h k))).set (hv.length * 2 + 1) (.slice (some ⟨P, 0, none⟩) (hpairs h k).length ((hpairs h k).length + 1))
    rw [lRow_set hkv ⟨hsrc h k, hpairs h k⟩, hvl.out] at q3
    have q4 : Lies (((w3.setCell ⟨P, (hpairs h k).length * 2, none⟩ (.int .i64 77)).setCell ⟨L, k * 2, none⟩ (.int .i64 (hsrc h k))).setCell ⟨L, k * 2 + 1, none⟩ (.slice (some ⟨P, 0, none⟩) (hpairs h k).length ((hpairs h k).length + 1))) (hv ++ [(⟨hsrc h k, hpairs h k⟩, .slice (some ⟨P, 0, none⟩) (hpairs h k).length ((hpairs h k).length + 1))]) := by
      intro x hx
      rcases List.mem_append.1 hx with hx | hx
      · refine lies_step hlies ?_ x hx
        intro p xs hp
        have hpP : p < P := by have := hp.lt; rw [HP.out]; exact this
        have hpL : p ≠ L := row_apart hp hL (by decide)
        exact ((((hp.same (hb2.block p hpP)).same (hu3.block p (by omega))).unset (a := ⟨P, _, none⟩) (by show p ≠ P; omega) _).unset (a := ⟨L, _, none⟩) hpL _).unset (a := ⟨L, _, none⟩) hpL _
      · simp at hx
        subst hx
        exact ⟨P, rfl, q2⟩
    have q5 := ((hb3.setCell (p := ⟨P, (hpairs h k).length * 2, none⟩) (by show _ ≤ P; omega) (.int .i64 77)).setCell (p := ⟨L, k * 2, none⟩) (by show _ ≤ L; omega) (.int .i64 (hsrc h k))).setCell (p := ⟨L, k * 2 + 1, none⟩) (by show _ ≤ L; omega) (.slice (some ⟨P, 0, none⟩) (hpairs h k).length ((hpairs h k).length + 1))
    clear q1 q2 hb3 hlies hL hb2
    go_wp2
    go_roundw
    case rel =>
      refine ⟨k + 1, _, by omega, by go_num, ?_, ?_, q4, q3, q5⟩
      · show List.length _ = _
        have := hvl.out
        simp; exact this
      · show hdat _ = _
        have e := hdt.out
        rw [take_getD h Go.Proofs.Ytblhmeidbjigaaa.hz k hlt, ← e]
        simp [hdat, hsrc, hpairs]
    case measure => simp [intOf]; omega

end Go.Proofs.Ytblhmeidbjigaaa
