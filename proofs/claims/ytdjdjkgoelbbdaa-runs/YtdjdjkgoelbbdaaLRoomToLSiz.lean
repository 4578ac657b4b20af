/- Lists of words with spare room; what is behind a list's end. -/
import Derived.Test.YtdjdjkgoelbbdaaFSameJoined
import Derived.Test.YtdjdjkgoelbbdaaLawKJoined
import Derived.Test.YtdjdjkgoelbbdaaRStaToRLet
import Derived.Test.YtdjdjkgoelbbdaaRRunJoined
set_option linter.unusedSimpArgs false
set_option linter.unusedVariables false
namespace Go.Proofs.Ytdjdjkgoelbbdaa
open Go.RowKit

/-- A list of words of its own with two marks behind its end. -/
def Room (w : World) (g : Nat) (l : List Int) : Prop := Row w g 3 (ints l ++ [.int .i64 77, .int .i64 77])

theorem Room.keep {w w' : World} {g : Nat} {l : List Int} (h : Room w g l) (hb : Below w.heap.size w w') : Room w' g l := Row.keep h hb

theorem Room.rd {w : World} {g cap : Nat} {l : List Int} (h : Room w g l) (hl : l.length ≤ 9223372036854775807) : RdWords w (.slice (some ⟨g, 0, none⟩) l.length cap) l := by
  refine ⟨_, _, rfl, hl, fun i hi => ⟨g, 0, rfl, ?_⟩⟩
  rw [Nat.zero_add]
  refine Row.cell h (i := i) ?_
  rw [List.getElem?_append_left (by rw [ints_length]; exact hi)]
  simp [ints, List.getD, hi]

theorem rdw_none {w : World} {n sc : Nat} {l : List Int} {so : Option Addr} (h : RdWords w (.slice so n sc) l) : so = none → ints l = [] := by
  rintro rfl
  obtain ⟨ao, cap, e, _, hc⟩ := h
  simp only [Value.slice.injEq] at e
  obtain ⟨rfl, _, _⟩ := e
  cases l with
  | nil => rfl
  | cons x r =>
    obtain ⟨b, off, e, _⟩ := hc 0 (by simp)
    cases e

theorem rdw_cells {w : World} {n sc : Nat} {l : List Int} {so : Option Addr} (h : RdWords w (.slice so n sc) l) : ∀ ad, so = some ad → ∀ j u, (ints l)[j]? = some u → w.cell? (ad.add j) = some u := by
  rintro ad rfl j u hj
  obtain ⟨ao, cap, e, _, hc⟩ := h
  simp only [Value.slice.injEq] at e
  obtain ⟨rfl, _, _⟩ := e
  have hlt : j < l.length := by
    have := (List.getElem?_eq_some_iff.1 hj).1
    rwa [ints_length] at this
  obtain ⟨b, off, e, h1⟩ := hc j hlt
  simp only [Option.some.injEq] at e
  subst e
  rw [Addr.add_lit, h1]
  simp [ints, hlt] at hj
  simp [List.getD, hlt, hj]

theorem intsw_one (l : List Int) : ∀ u ∈ ints l, u.oneCell' = true := by
  intro u hu
  simp only [ints, List.mem_map] at hu
  obtain ⟨x, _, rfl⟩ := hu
  rfl

theorem room_row (l : List Int) : ints l ++ (pad [Value.int .i64 0] (l.length + 2)).drop (ints l).length = ints l ++ [.int .i64 0, .int .i64 0] := by
  have h2 : (pad [Value.int .i64 0] (l.length + 2)).drop (ints l).length = [.int .i64 0, .int .i64 0] := by
    rw [ints_length]
    apply List.ext_getElem?
    intro i
    rw [List.getElem?_drop]
    by_cases hi : i < 2
    · rw [pad_get [Value.int .i64 0] _ _ (by simp; omega)]
      have : i = 0 ∨ i = 1 := by omega
      rcases this with rfl | rfl <;> simp [Nat.mod_one]
    · rw [List.getElem?_eq_none (by rw [pad_length]; simp; omega), List.getElem?_eq_none (by simp; omega)]
  rw [h2]

theorem room_set (l : List Int) : ((ints l ++ [Value.int .i64 0, .int .i64 0]).set l.length (.int .i64 77)).set (l.length + 1) (.int .i64 77) = ints l ++ [.int .i64 77, .int .i64 77] := by
  rw [List.set_append_right _ _ (by rw [ints_length]; omega), List.set_append_right _ _ (by rw [ints_length]; omega), ints_length]
  simp

theorem room_get (l : List Int) (a b : Value) : (ints l ++ [a, b])[l.length]? = some a ∧ (ints l ++ [a, b])[l.length + 1]? = some b := by
  constructor
  · rw [List.getElem?_append_right (by rw [ints_length]; omega), ints_length]; simp
  · rw [List.getElem?_append_right (by rw [ints_length]; omega), ints_length]; simp

set_option maxRecDepth 100000 in
set_option maxHeartbeats 2000000 in
theorem roomy_cps (v : Value) (l : List Int) (w : World) (hr : RdWords w v l) (hn : l.length ≤ 17592186044416) (Post : Ending → World → Prop)
    (hp : ∀ w', Room w' w.heap.size l → Below w.heap.size w w' → w.heap.size < w'.heap.size → Post (.returned (.slice (some ⟨w.heap.size, 0, none⟩) l.length (l.length + 2))) w') :
    Calls Try.prog 60 #[v] w Post := by
  obtain ⟨so, sc, rfl, hll, _⟩ := id hr
  obtain ⟨i0, ii, iz0, iz1, iz2⟩ := info_parts Try.infoInt
  go_enter Try.func60, Try.ntmps60
  go_wp2_with (at_make; refine wpList_make_row _ rfl _ _ 36 rfl 3 i0 _ [.int .i64 0] Try.underlying36 ii iz0 iz1 rfl (by decide) _ _ _ _ (l.length + 2) rfl rfl (by simp) (by simp) ?e1 ?e2 ?_)
  case e1 => first | omega | (rw [iz2]; omega)
  case e2 => unfold maxLen; omega
  intro w1 hP hb1 hz1
  have hr1 := hr.keep hb1
  have hDw : w.heap.size < w1.heap.size := hP.lt
  clear hz1
  go_wp2_with (refine wpList_copy_row _ rfl (.tmp 10) (.tmp 11) 36 rfl 3 i0 Try.underlying36 ii 1 iz1 w.heap.size _ _ so _ _ rfl rfl _ hP (ints l) ?g1 (rdw_none hr1) (rdw_cells hr1) ?g2 (intsw_one _) ?_)
  case g1 => rw [ints_length]; simp [Nat.min_def]
  case g2 => rw [ints_length, pad_length]; simp
  intro w2 hR hU
  rw [room_row] at hR
  have hb2 := hU.below hb1 (Nat.le_refl _)
  have hDw2 : w.heap.size < w2.heap.size := hR.lt
  have c0 := hR.cell (room_get l _ _).1
  have f0 := hR.frozen l.length
  have hR2 := hR.set l.length (.int .i64 77)
  have c1 : (w2.setCell ⟨w.heap.size, l.length, none⟩ (.int .i64 77)).cell? ⟨w.heap.size, l.length + 1, none⟩ = some (.int .i64 0) := cell_unset (by simp) (hR.cell (room_get l _ _).2)
  have f1 := hR2.frozen (l.length + 1)
  have hR3 := hR2.set (l.length + 1) (.int .i64 77)
  rw [room_set] at hR3
  have hb3 := (hb2.setCell (p := ⟨w.heap.size, l.length, none⟩) (Nat.le_refl _) (.int .i64 77)).setCell (p := ⟨w.heap.size, l.length + 1, none⟩) (Nat.le_refl _) (.int .i64 77)
  have hli : (0 : Int) ≤ (l.length : Int) := by omega
  have HF : Hid (Post (.returned (.slice (some ⟨w.heap.size, 0, none⟩) l.length (l.length + 2))) ((w2.setCell ⟨w.heap.size, l.length, none⟩ (.int .i64 77)).setCell ⟨w.heap.size, l.length + 1, none⟩ (.int .i64 77))) := hp _ hR3 hb3 (by simpa using hDw2)
  clear hp hR hR2 hR3 hU hb1 hb2 hb3 hP hr hr1
  go_wp2
  exact HF.out

set_option maxRecDepth 100000 in
set_option maxHeartbeats 2000000 in
theorem whole_any (g : Nat) (v : Value) (l : List Int) (w : World) (h : Room w g l) (hv : RdWords w v l) (hn : l.length ≤ 17592186044416) :
    Calls Try.prog 65 #[.slice (some ⟨g, 0, none⟩) l.length (l.length + 2), v] w fun e w' => e = .returned (.bool true) ∧ Below w.heap.size w w' := by
  go_enter Try.func65, Try.ntmps65
  go_wp2_with fail
  refine (lSameInts_any _ _ l w (h.rd (by omega)) hv).mono ?_
  rintro e w1 ⟨rfl, hb1⟩
  have h1 := h.keep hb1
  have c0 := Row.cell h1 (room_get l _ _).1
  have c1 := Row.cell h1 (room_get l _ _).2
  have hli : (0 : Int) ≤ (l.length : Int) := by omega
  clear h h1
  go_wp2
  go_ret
  exact ⟨by simp, hb1⟩

set_option maxRecDepth 100000 in
set_option maxHeartbeats 2000000 in
theorem behind_any (base : Nat) (v : Value) (l : List Int) (w : World) (hown : w.ownsRow base 3 1 v l.length (ints l)) (hbs : base ≤ w.heap.size) (hl : l.length ≤ 100000) :
    Calls Try.prog 63 #[v] w fun e w' => e = .returned (.tuple #[]) ∧ w'.ownsRow base 3 1 v l.length (ints l) ∧ Keep (fun g => v.ownBlock = some g) w w' := by
  obtain ⟨i0, ii, iz0, iz1, iz2⟩ := info_parts Try.infoInt
  obtain ⟨vo, vc, rfl⟩ := owns_slice hown
  go_enter Try.func63, Try.ntmps63
  go_wp2
  go_loopw [0, 2] (fun x i wr => ∃ (j : Nat), j ≤ 9 ∧ i = .int .i64 j ∧ wr.ownsRow base 3 1 (.slice vo l.length vc) l.length (ints l) ∧ wr.ownsRow base 3 1 x (l.length + j) (ints l ++ pad [.int .i64 77] j) ∧ Hid (∀ g, x.ownBlock = some g → (Value.slice vo l.length vc).ownBlock = some g ∨ w.heap.size ≤ g) ∧ Keep (fun g => (Value.slice vo l.length vc).ownBlock = some g) w wr)
    (fun _ i _ => 9 - (intOf i).toNat)
  case atStart => exact ⟨0, Nat.zero_le _, rfl, hown, by simpa [pad] using hown, (fun g e => .inl e), Keep.refl _ _⟩
  case round =>
    obtain ⟨j, hj, rfl, hv, hx, hne, hk⟩ := hrel
    obtain ⟨xo, xc, rfl⟩ := owns_slice hx
    have hz := hk.size
    by_cases hlt : j < 9
    · have HP : Hid (pad [Value.int .i64 77] (j + 1) = pad [.int .i64 77] j ++ [.int .i64 77]) := rfl
      go_wp2_with (at_builtin; refine wpList_append_stay _ rfl _ _ 36 rfl base 3 i0 (.int .i64 0) 1 8 Try.underlying36 ii iz0 iz1 iz2 rfl (by decide) _ _ _ rfl (hx.alloc _) ⟨wr.heap.size, 0, none⟩ 1 1 [.int .i64 77] rfl rfl ?c1 (int_one' 77) ?c3 ?c4 ?c5 (by decide) ?_)
      case c1 => exact one_new wr _ _
      case c3 => unfold maxLen; omega
      case c4 => omega
      case c5 => simp; omega
      intro v' w2 hrow' hgrow hstay hfr
      have hv2 : w2.ownsRow base 3 1 (.slice vo l.length vc) l.length (ints l) := by
        have hva := hv.alloc (.cells #[.int .i64 77] 3)
        have hxa := hx.alloc (.cells #[.int .i64 77] 3)
        by_cases hs : ∃ g, (Value.slice vo l.length vc).ownBlock = some g ∧ (Value.slice xo (l.length + j) xc).ownBlock = some g
        · obtain ⟨g, e1, e2⟩ := hs
          exact owns_pre (by decide) hva hxa e1 e2 hstay rfl
        · refine hva.kept hgrow ?_
          cases hb : (Value.slice vo l.length vc).ownBlock with
          | none => exact .inl rfl
          | some g => exact .inr (fun e => hs ⟨g, hb, e.symm⟩)
      have hk2 : Keep (fun g => (Value.slice vo l.length vc).ownBlock = some g) w w2 := (hk.alloc _).grown hgrow (fun g e => hne.out g e)
      have hne2 : Hid (∀ g, v'.ownBlock = some g → (Value.slice vo l.length vc).ownBlock = some g ∨ w.heap.size ≤ g) := fun g e => by
        rcases hfr g e with q | q
        · exact hne.out g q
        · right; (try simp at q); omega
      (try rw [List.append_assoc] at hrow')
      rw [← HP.out] at hrow'
      obtain ⟨xo', xc', rfl⟩ := owns_slice hrow'
      clear hgrow hstay hfr hx hv hk hne HP
      go_wp2
      go_roundw
      case rel => exact ⟨j + 1, by omega, by go_num, hv2, hrow', hne2, hk2⟩
      case measure => simp [intOf]; omega
    · go_wp2
      go_end0
      exact ⟨rfl, hv, hk⟩

end Go.Proofs.Ytdjdjkgoelbbdaa

/- What lies around the two lists that came out of Run. -/
set_option linter.unusedSimpArgs false
set_option linter.unusedVariables false
namespace Go.Proofs.Ytdjdjkgoelbbdaa
open Go.RowKit

/-- The blocks around the lists mv and lv that Run gave: the arguments, the lists with spare room, the two outcomes, the reference's lists. -/
structure Fr (w : World) (b b2 I R J O P ga gm gs : Nat) (vI vJ vO vP : List Value) (args mem spill ml2 ll2 : List Int) (mv2 lv2 : Value) (wr : World) : Prop where
  rI : Row wr I 52 vI
  rR : Row wr R 54 zOut
  rJ : Row wr J 52 vJ
  rO : Row wr O 54 vO
  rP : Row wr P 54 vP
  ha : Room wr ga args
  hm : Room wr gm mem
  hs : Room wr gs spill
  m2 : wr.ownsRow b2 3 1 mv2 ml2.length (ints ml2)
  l2 : wr.ownsRow b2 3 1 lv2 ll2.length (ints ll2)
  below : Below w.heap.size w wr
  la : ga < b
  lm : gm < b
  ls : gs < b
  lb : w.heap.size ≤ b
  le : b ≤ b2

/-- The two lists of one's own, apart from each other; both lie below b2. -/
structure Two (b b2 : Nat) (mv lv : Value) (ml ll : List Int) (wr : World) : Prop where
  om : wr.ownsRow b 3 1 mv ml.length (ints ml)
  ol : wr.ownsRow b 3 1 lv ll.length (ints ll)
  apart : ∀ g, mv.ownBlock = some g → lv.ownBlock ≠ some g
  hm : ∀ g, mv.ownBlock = some g → g < b2
  hl : ∀ g, lv.ownBlock = some g → g < b2

section
variable {w wr w' : World} {b b2 I R J O P ga gm gs : Nat} {vI vJ vO vP : List Value} {args mem spill ml2 ll2 ml ll : List Int} {mv lv mv2 lv2 : Value}

theorem Fr.keep (h : Fr w b b2 I R J O P ga gm gs vI vJ vO vP args mem spill ml2 ll2 mv2 lv2 wr) (t : Two b b2 mv lv ml ll wr) (hk : Keep (fun g => mv.ownBlock = some g ∨ lv.ownBlock = some g) wr w') :
    Fr w b b2 I R J O P ga gm gs vI vJ vO vP args mem spill ml2 ll2 mv2 lv2 w' := by
  have om0 : OwnW wr mv ml := owns_base t.om (Nat.zero_le _)
  have ol0 : OwnW wr lv ll := owns_base t.ol (Nat.zero_le _)
  have row : ∀ {g : Nat} {ty : TypeId} {xs : List Value}, Row wr g ty xs → ty ≠ 3 → Row w' g ty xs := fun hr ht =>
    hr.same (hk.block _ hr.lt (fun e => by rcases e with e | e; exact row_owns_apart hr om0 ht e; exact row_owns_apart hr ol0 ht e))
  have room : ∀ {g : Nat} {l : List Int}, Room wr g l → g < b → Room w' g l := fun {g l} hr hg =>
    Row.same hr (hk.block g (Row.lt hr) (fun e => by rcases e with e | e; have := (t.om.lt g e).1; omega; have := (t.ol.lt g e).1; omega))
  have own : ∀ {v : Value} {l : List Int}, wr.ownsRow b2 3 1 v l.length (ints l) → w'.ownsRow b2 3 1 v l.length (ints l) := fun {v l} ho =>
    owns_same ho fun g e => hk.block g (ho.lt g e).2 (fun q => by have := (ho.lt g e).1; rcases q with q | q; have := t.hm g q; omega; have := t.hl g q; omega)
  refine ⟨row h.rI (by decide), row h.rR (by decide), row h.rJ (by decide), row h.rO (by decide), row h.rP (by decide), room h.ha h.la, room h.hm h.lm, room h.hs h.ls, own h.m2, own h.l2, ?_, h.la, h.lm, h.ls, h.lb, h.le⟩
  exact h.below.trans (hk.toBelow h.below.size (fun g e => by have := h.lb; rcases e with e | e; have := (t.om.lt g e).1; omega; have := (t.ol.lt g e).1; omega))

theorem Fr.step (h : Fr w b b2 I R J O P ga gm gs vI vJ vO vP args mem spill ml2 ll2 mv2 lv2 wr) (t : Two b b2 mv lv ml ll wr) (hb : Below wr.heap.size wr w') :
    Fr w b b2 I R J O P ga gm gs vI vJ vO vP args mem spill ml2 ll2 mv2 lv2 w' ∧ Two b b2 mv lv ml ll w' :=
  ⟨h.keep t ((Keep.refl _ _).below hb (Nat.le_refl _)), ⟨owns_below t.om hb (Nat.le_refl _), owns_below t.ol hb (Nat.le_refl _), t.apart, t.hm, t.hl⟩⟩

theorem Fr.stepM (h : Fr w b b2 I R J O P ga gm gs vI vJ vO vP args mem spill ml2 ll2 mv2 lv2 wr) (t : Two b b2 mv lv ml ll wr) (hk : Keep (fun g => mv.ownBlock = some g) wr w') {ml' : List Int} (ho : w'.ownsRow b 3 1 mv ml'.length (ints ml')) :
    Fr w b b2 I R J O P ga gm gs vI vJ vO vP args mem spill ml2 ll2 mv2 lv2 w' ∧ Two b b2 mv lv ml' ll w' :=
  ⟨h.keep t (hk.mono (fun g e => .inl e)), ⟨ho, owns_same t.ol fun g e => hk.block g (t.ol.lt g e).2 (fun q => t.apart g q e), t.apart, t.hm, t.hl⟩⟩

theorem Fr.stepL (h : Fr w b b2 I R J O P ga gm gs vI vJ vO vP args mem spill ml2 ll2 mv2 lv2 wr) (t : Two b b2 mv lv ml ll wr) (hk : Keep (fun g => lv.ownBlock = some g) wr w') {ll' : List Int} (ho : w'.ownsRow b 3 1 lv ll'.length (ints ll')) :
    Fr w b b2 I R J O P ga gm gs vI vJ vO vP args mem spill ml2 ll2 mv2 lv2 w' ∧ Two b b2 mv lv ml ll' w' :=
  ⟨h.keep t (hk.mono (fun g e => .inr e)), ⟨owns_same t.om fun g e => hk.block g (t.om.lt g e).2 (fun q => t.apart g e q), ho, t.apart, t.hm, t.hl⟩⟩

/-- A store into the first list. -/
theorem Fr.setM (h : Fr w b b2 I R J O P ga gm gs vI vJ vO vP args mem spill ml2 ll2 mv2 lv2 wr) (t : Two b b2 mv lv ml ll wr) {g i : Nat} (hg : mv.ownBlock = some g) (hi : i < ml.length) (u : Int) :
    Fr w b b2 I R J O P ga gm gs vI vJ vO vP args mem spill ml2 ll2 mv2 lv2 (wr.setCell ⟨g, i, none⟩ (.int .i64 u)) ∧ Two b b2 mv lv (ml.set i u) ll (wr.setCell ⟨g, i, none⟩ (.int .i64 u)) := by
  refine h.stepM t ((Keep.refl _ _).setCell (.inl hg) _) ?_
  have := owns_set t.om hg (i := i) (by rw [ints_length]; exact hi) (.int .i64 u)
  rw [← ints_set] at this
  rw [List.length_set]
  exact this

theorem Fr.setL (h : Fr w b b2 I R J O P ga gm gs vI vJ vO vP args mem spill ml2 ll2 mv2 lv2 wr) (t : Two b b2 mv lv ml ll wr) {g i : Nat} (hg : lv.ownBlock = some g) (hi : i < ll.length) (u : Int) :
    Fr w b b2 I R J O P ga gm gs vI vJ vO vP args mem spill ml2 ll2 mv2 lv2 (wr.setCell ⟨g, i, none⟩ (.int .i64 u)) ∧ Two b b2 mv lv ml (ll.set i u) (wr.setCell ⟨g, i, none⟩ (.int .i64 u)) := by
  refine h.stepL t ((Keep.refl _ _).setCell (.inl hg) _) ?_
  have := owns_set t.ol hg (i := i) (by rw [ints_length]; exact hi) (.int .i64 u)
  rw [← ints_set] at this
  rw [List.length_set]
  exact this

end

end Go.Proofs.Ytdjdjkgoelbbdaa

/- How long the lists of an outcome are. -/
set_option linter.unusedSimpArgs false
set_option linter.unusedVariables false
namespace Go.Proofs.Ytdjdjkgoelbbdaa
open Go.RowKit

theorem runN_sizes {bs : List BlockD} (hb : ∀ k, (bops bs k).length ≤ 12) (f : Nat) (i : Int) {s : RunD} {r c k : Int} (hs : Sized s r c k) : ((runN bs f i s).mem.length : Int) ≤ c ∧ (runN bs f i s).leak.length ≤ s.leak.length + 25 * f := by
  induction f generalizing i s with
  | zero => exact ⟨by show (s.cells.length : Int) ≤ c; have := hs.cells; omega, by show s.leak.length ≤ _; omega⟩
  | succ f ih =>
    have h1 := hs.doOps (bops bs i.toNat)
    have h2 := doOps_leak (bops bs i.toNat) s
    have h3 := hb i.toNat
    have hc0 : (0 : Int) ≤ c := by have := hs.cells; omega
    simp only [runN]
    split
    · exact ⟨by simpa using hc0, by simp only; omega⟩
    · split
      · exact ⟨by simp only; have := h1.cells; omega, by simp only; omega⟩
      · have h4 := goesOn_leak (doOps (bops bs i.toNat) s) (bfin bs i.toNat)
        obtain ⟨q1, q2⟩ := ih (goesTo (doOps (bops bs i.toNat) s) (bfin bs i.toNat)) (h1.on (bfin bs i.toNat))
        exact ⟨q1, by omega⟩

theorem RunAns.sizes {s : ByteArray} {args mem spill : List Int} {fuel : Int} {o : OutD} {e : Int} (h : RunAns s args mem spill fuel o e) : o.mem.length ≤ 100000 ∧ o.leak.length ≤ 100000 := by
  rcases h with ⟨_, rfl, _⟩ | ⟨p, hg, _, h⟩
  · simp [outZ]
  · rcases h with ⟨_, rfl, _⟩ | ⟨_, rfl, _, _⟩ | ⟨_, hf, hfu, rfl⟩
    · simp [outZ]
    · simp [outZ]
    · have hgg := hg
      simp only [progGood, Bool.and_eq_true, decide_eq_true_eq] at hgg
      obtain ⟨⟨⟨⟨⟨g1, g2⟩, g3⟩, g4⟩, g5⟩, g6⟩ := hgg
      have hb : ∀ k, (bops p.blocks k).length ≤ 12 := by
        intro k
        by_cases hk : k < p.blocks.length
        · exact (blocksGood_at g6 hk).1
        · have : bops p.blocks k = [] := by simp [bops, List.getD, hk, bz]
          rw [this]; simp
      obtain ⟨q1, q2⟩ := runN_sizes hb fuel.toNat 0 (begins_sized hg hf)
      have hz : (begins p args mem spill).leak.length = 0 := rfl
      omega

end Go.Proofs.Ytdjdjkgoelbbdaa
