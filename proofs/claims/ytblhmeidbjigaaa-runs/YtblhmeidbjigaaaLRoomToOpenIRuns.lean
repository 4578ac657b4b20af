/- Lists of words with spare room; what is behind a list's end. -/
import Derived.Test.YtblhmeidbjigaaaRows
import Derived.WalkKit
import Derived.WalkSpells
import Derived.WalkLawsBesides
import Derived.Laws.BytesArg
import Derived.Deep.QuietTactic
import Derived.BigQuiet
import Derived.Deep.RegionHeld3
import Derived.Maps.AppendAt
import Derived.StillTailTactics
import Derived.ProofKit
import Derived.SizedLaws
import Derived.Deep.Slices
import Derived.Lib.SmallJoins
import Derived.Test.YtblhmeidbjigaaaFSameToRRunRuns

set_option linter.unusedSimpArgs false
set_option linter.unusedVariables false
namespace Go.Proofs.Ytblhmeidbjigaaa
open Go.RowKit

/-- A list of words of its own with two marks behind its end. -/
def Room (w : World) (g : Nat) (l : List Int) : Prop := Row w g 3 (ints l ++ [.int .i64 77, .int .i64 77])

theorem Room.keep {w w' : World} {g : Nat} {l : List Int} (h : Room w g l) (hb : Below w.heap.size w w') : Room w' g l := Row.keep h hb

theorem Room.rd {w : World} {g cap : Nat} {l : List Int} (h : Room w g l) (hl : l.length ≤ 9223372036854775807) : RdWords w (.slice (some ⟨g, 0, none⟩) l.length cap) l := by
  refine ⟨_, _, rfl, hl, fun i hi => ⟨g, 0, rfl, ?_⟩⟩
  rw [Nat.zero_add]
  refine Row.cell h (i := i) ?_
  rw [List.getElem?_append_left (by rw [ints_length]; exact hi)]
  simp [ints, List.getD, hi]

theorem rdw_none {w : World} {n sc : Nat} {l : List Int} {so : Option Addr} (h : RdWords w (.slice so n sc) l) : so = none → ints l = [] := by
  rintro rfl
  obtain ⟨ao, cap, e, _, hc⟩ := h
  simp only [Value.slice.injEq] at e
  obtain ⟨rfl, _, _⟩ := e
  cases l with
  | nil => rfl
  | cons x r =>
    obtain ⟨b, off, e, _⟩ := hc 0 (by simp)
    cases e

theorem rdw_cells {w : World} {n sc : Nat} {l : List Int} {so : Option Addr} (h : RdWords w (.slice so n sc) l) : ∀ ad, so = some ad → ∀ j u, (ints l)[j]? = some u → w.cell? (ad.add j) = some u := by
  rintro ad rfl j u hj
  obtain ⟨ao, cap, e, _, hc⟩ := h
  simp only [Value.slice.injEq] at e
  obtain ⟨rfl, _, _⟩ := e
  have hlt : j < l.length := by
    have := (List.getElem?_eq_some_iff.1 hj).1
    rwa [ints_length] at this
  obtain ⟨b, off, e, h1⟩ := hc j hlt
  simp only [Option.some.injEq] at e
  subst e
  rw [Addr.add_lit, h1]
  simp [ints, hlt] at hj
  simp [List.getD, hlt, hj]

theorem intsw_one (l : List Int) : ∀ u ∈ ints l, u.oneCell' = true := by
  intro u hu
  simp only [ints, List.mem_map] at hu
  obtain ⟨x, _, rfl⟩ := hu
  rfl

theorem room_row (l : List Int) : ints l ++ (pad [Value.int .i64 0] (l.length + 2)).drop (ints l).length = ints l ++ [.int .i64 0, .int .i64 0] := by
  have h2 : (pad [Value.int .i64 0] (l.length + 2)).drop (ints l).length = [.int .i64 0, .int .i64 0] := by
    rw [ints_length]
    apply List.ext_getElem?
    intro i
    rw [List.getElem?_drop]
    by_cases hi : i < 2
    · rw [pad_get [Value.int .i64 0] _ _ (by simp; omega)]
      have : i = 0 ∨ i = 1 := by omega
      rcases this with rfl | rfl <;> simp [Nat.mod_one]
    · rw [List.getElem?_eq_none (by rw [pad_length]; simp; omega), List.getElem?_eq_none (by simp; omega)]
  rw [h2]

theorem room_set (l : List Int) : ((ints l ++ [Value.int .i64 0, .int .i64 0]).set l.length (.int .i64 77)).set (l.length + 1) (.int .i64 77) = ints l ++ [.int .i64 77, .int .i64 77] := by
  rw [List.set_append_right _ _ (by rw [ints_length]; omega), List.set_append_right _ _ (by rw [ints_length]; omega), ints_length]
  simp

theorem room_get (l : List Int) (a b : Value) : (ints l ++ [a, b])[l.length]? = some a ∧ (ints l ++ [a, b])[l.length + 1]? = some b := by
  constructor
  · rw [List.getElem?_append_right (by rw [ints_length]; omega), ints_length]; simp
  · rw [List.getElem?_append_right (by rw [ints_length]; omega), ints_length]; simp

set_option maxRecDepth 100000 in
set_option maxHeartbeats 2000000 in
theorem roomy_cps (v : Value) (l : List Int) (w : World) (hr : RdWords w v l) (hn : l.length ≤ 17592186044416) (Post : Ending → World → Prop)
    (hp : ∀ w', Room w' w.heap.size l → Below w.heap.size w w' → w.heap.size < w'.heap.size → Post (.returned (.slice (some ⟨w.heap.size, 0, none⟩) l.length (l.length + 2))) w') :
    Calls Try.prog 52 #[v] w Post := by
  obtain ⟨so, sc, rfl, hll, _⟩ := id hr
  obtain ⟨i0, ii, iz0, iz1, iz2⟩ := info_parts Try.infoInt
  go_enter Try.func52, Try.ntmps52
  go_wp2_with (at_make; refine wpList_make_row _ rfl _ _ 36 rfl 3 i0 _ [.int .i64 0] Try.underlying36 ii iz0 iz1 rfl (by decide) _ _ _ _ (l.length + 2) rfl rfl (by simp) (by simp) ?e1 ?e2 ?_)
  case e1 => first | omega | (rw [iz2]; omega)
  case e2 => unfold maxLen; omega
  intro w1 hP hb1 hz1
  have hr1 := hr.keep hb1
  have hDw : w.heap.size < w1.heap.size := hP.lt
  clear hz1
  go_wp2_with (refine wpList_copy_row _ rfl (.tmp 10) (.tmp 11) 36 rfl 3 i0 Try.underlying36 ii 1 iz1 w.heap.size _ _ so _ _ rfl rfl _ hP (ints l) ?g1 (rdw_none hr1) (rdw_cells hr1) ?g2 (intsw_one _) ?_)
  case g1 => rw [ints_length]; simp [Nat.min_def]
  case g2 => rw [ints_length, pad_length]; simp
  intro w2 hR hU
  rw [room_row] at hR
  have hb2 := hU.below hb1 (Nat.le_refl _)
  have hDw2 : w.heap.size < w2.heap.size := hR.lt
  have c0 := hR.cell (room_get l _ _).1
  have f0 := hR.frozen l.length
  have hR2 := hR.set l.length (.int .i64 77)
  have c1 : (w2.setCell ⟨w.heap.size, l.length, none⟩ (.int .i64 77)).cell? ⟨w.heap.size, l.length + 1, none⟩ = some (.int .i64 0) := cell_unset (by simp) (hR.cell (room_get l _ _).2)
  have f1 := hR2.frozen (l.length + 1)
  have hR3 := hR2.set (l.length + 1) (.int .i64 77)
  rw [room_set] at hR3
  have hb3 := (hb2.setCell (p := ⟨w.heap.size, l.length, none⟩) (Nat.le_refl _) (.int .i64 77)).setCell (p := ⟨w.heap.size, l.length + 1, none⟩) (Nat.le_refl _) (.int .i64 77)
  have hli : (0 : Int) ≤ (l.length : Int) := by omega
  have HF : Hid (Post (.returned (.slice (some ⟨w.heap.size, 0, none⟩) l.length (l.length + 2))) ((w2.setCell ⟨w.heap.size, l.length, none⟩ (.int .i64 77)).setCell ⟨w.heap.size, l.length + 1, none⟩ (.int .i64 77))) := hp _ hR3 hb3 (by simpa using hDw2)
  clear hp hR hR2 hR3 hU hb1 hb2 hb3 hP hr hr1
  go_wp2
  exact HF.out

set_option maxRecDepth 100000 in
set_option maxHeartbeats 2000000 in
theorem whole_any (g : Nat) (v : Value) (l : List Int) (w : World) (h : Room w g l) (hv : RdWords w v l) (hn : l.length ≤ 17592186044416) :
    Calls Try.prog 57 #[.slice (some ⟨g, 0, none⟩) l.length (l.length + 2), v] w fun e w' => e = .returned (.bool true) ∧ Below w.heap.size w w' := by
  go_enter Try.func57, Try.ntmps57
  go_wp2_with fail
  refine (lSameInts_any _ _ l w (h.rd (by omega)) hv).mono ?_
  rintro e w1 ⟨rfl, hb1⟩
  have h1 := h.keep hb1
  have c0 := Row.cell h1 (room_get l _ _).1
  have c1 := Row.cell h1 (room_get l _ _).2
  have hli : (0 : Int) ≤ (l.length : Int) := by omega
  clear h h1
  go_wp2
  go_ret
  exact ⟨by simp, hb1⟩

set_option maxRecDepth 100000 in
set_option maxHeartbeats 2000000 in
theorem behind_any (base : Nat) (v : Value) (l : List Int) (w : World) (hown : w.ownsRow base 3 1 v l.length (ints l)) (hbs : base ≤ w.heap.size) (hl : l.length ≤ 100000) :
    Calls Try.prog 55 #[v] w fun e w' => e = .returned (.tuple #[]) ∧ w'.ownsRow base 3 1 v l.length (ints l) ∧ Keep (fun g => v.ownBlock = some g) w w' := by
  obtain ⟨i0, ii, iz0, iz1, iz2⟩ := info_parts Try.infoInt
  obtain ⟨vo, vc, rfl⟩ := owns_slice hown
  go_enter Try.func55, Try.ntmps55
  go_wp2
  go_loopw [0, 2] (fun x i wr => ∃ (j : Nat), j ≤ 9 ∧ i = .int .i64 j ∧ wr.ownsRow base 3 1 (.slice vo l.length vc) l.length (ints l) ∧ wr.ownsRow base 3 1 x (l.length + j) (ints l ++ pad [.int .i64 77] j) ∧ Hid (∀ g, x.ownBlock = some g → (Value.slice vo l.length vc).ownBlock = some g ∨ w.heap.size ≤ g) ∧ Keep (fun g => (Value.slice vo l.length vc).ownBlock = some g) w wr)
    (fun _ i _ => 9 - (intOf i).toNat)
  case atStart => exact ⟨0, Nat.zero_le _, rfl, hown, by simpa [pad] using hown, (fun g e => .inl e), Keep.refl _ _⟩
  case round =>
    obtain ⟨j, hj, rfl, hv, hx, hne, hk⟩ := hrel
    obtain ⟨xo, xc, rfl⟩ := owns_slice hx
    have hz := hk.size
    by_cases hlt : j < 9
    · have HP : Hid (pad [Value.int .i64 77] (j + 1) = pad [.int .i64 77] j ++ [.int .i64 77]) := rfl
      go_wp2_with (at_builtin; refine wpList_append_stay _ rfl _ _ 36 rfl base 3 i0 (.int .i64 0) 1 8 Try.underlying36 ii iz0 iz1 iz2 rfl (by decide) _ _ _ rfl (hx.alloc _) ⟨wr.heap.size, 0, none⟩ 1 1 [.int .i64 77] rfl rfl ?c1 (int_one' 77) ?c3 ?c4 ?c5 (by decide) ?_)
      case c1 => exact one_new wr _ _
      case c3 => unfold maxLen; omega
      case c4 => omega
      case c5 => simp; omega
      intro v' w2 hrow' hgrow hstay hfr
      have hv2 : w2.ownsRow base 3 1 (.slice vo l.length vc) l.length (ints l) := by
        have hva := hv.alloc (.cells #[.int .i64 77] 3)
        have hxa := hx.alloc (.cells #[.int .i64 77] 3)
        by_cases hs : ∃ g, (Value.slice vo l.length vc).ownBlock = some g ∧ (Value.slice xo (l.length + j) xc).ownBlock = some g
        · obtain ⟨g, e1, e2⟩ := hs
          exact owns_pre (by decide) hva hxa e1 e2 hstay rfl
        · refine hva.kept hgrow ?_
          cases hb : (Value.slice vo l.length vc).ownBlock with
          | none => exact .inl rfl
          | some g => exact .inr (fun e => hs ⟨g, hb, e.symm⟩)
      have hk2 : Keep (fun g => (Value.slice vo l.length vc).ownBlock = some g) w w2 := (hk.alloc _).grown hgrow (fun g e => hne.out g e)
      have hne2 : Hid (∀ g, v'.ownBlock = some g → (Value.slice vo l.length vc).ownBlock = some g ∨ w.heap.size ≤ g) := fun g e => by
        rcases hfr g e with q | q
        · exact hne.out g q
        · right; (try simp at q); omega
      (try rw [List.append_assoc] at hrow')
      rw [← HP.out] at hrow'
      obtain ⟨xo', xc', rfl⟩ := owns_slice hrow'
      clear hgrow hstay hfr hx hv hk hne HP
      go_wp2
      go_roundw
      case rel => exact ⟨j + 1, by omega, by go_num, hv2, hrow', hne2, hk2⟩
      case measure => simp [intOf]; omega
    · go_wp2
      go_end0
      exact ⟨rfl, hv, hk⟩

end Go.Proofs.Ytblhmeidbjigaaa

/- What lies around the two lists that came out of Run. -/
set_option linter.unusedSimpArgs false
set_option linter.unusedVariables false
namespace Go.Proofs.Ytblhmeidbjigaaa
open Go.RowKit

/-- The blocks around the lists mv and lv that Run gave: the arguments, the lists with spare room, the two outcomes, the reference's lists. -/
structure Fr (w : World) (b b2 I R J O P ga gm gs : Nat) (vI vJ vO vP : List Value) (args mem spill ml2 ll2 : List Int) (mv2 lv2 : Value) (wr : World) : Prop where
  rI : Row wr I 52 vI
  rR : Row wr R 54 zOut
  rJ : Row wr J 52 vJ
  rO : Row wr O 54 vO
  rP : Row wr P 54 vP
  ha : Room wr ga args
  hm : Room wr gm mem
  hs : Room wr gs spill
  m2 : wr.ownsRow b2 3 1 mv2 ml2.length (ints ml2)
  l2 : wr.ownsRow b2 3 1 lv2 ll2.length (ints ll2)
  below : Below w.heap.size w wr
  la : ga < b
  lm : gm < b
  ls : gs < b
  lb : w.heap.size ≤ b
  le : b ≤ b2

/-- The two lists of one's own, apart from each other; both lie below b2. -/
structure Two (b b2 : Nat) (mv lv : Value) (ml ll : List Int) (wr : World) : Prop where
  om : wr.ownsRow b 3 1 mv ml.length (ints ml)
  ol : wr.ownsRow b 3 1 lv ll.length (ints ll)
  apart : ∀ g, mv.ownBlock = some g → lv.ownBlock ≠ some g
  hm : ∀ g, mv.ownBlock = some g → g < b2
  hl : ∀ g, lv.ownBlock = some g → g < b2

section
variable {w wr w' : World} {b b2 I R J O P ga gm gs : Nat} {vI vJ vO vP : List Value} {args mem spill ml2 ll2 ml ll : List Int} {mv lv mv2 lv2 : Value}

theorem Fr.keep (h : Fr w b b2 I R J O P ga gm gs vI vJ vO vP args mem spill ml2 ll2 mv2 lv2 wr) (t : Two b b2 mv lv ml ll wr) (hk : Keep (fun g => mv.ownBlock = some g ∨ lv.ownBlock = some g) wr w') :
    Fr w b b2 I R J O P ga gm gs vI vJ vO vP args mem spill ml2 ll2 mv2 lv2 w' := by
  have om0 : OwnW wr mv ml := owns_base t.om (Nat.zero_le _)
  have ol0 : OwnW wr lv ll := owns_base t.ol (Nat.zero_le _)
  have row : ∀ {g : Nat} {ty : TypeId} {xs : List Value}, Row wr g ty xs → ty ≠ 3 → Row w' g ty xs := fun hr ht =>
    hr.same (hk.block _ hr.lt (fun e => by rcases e with e | e; exact row_owns_apart hr om0 ht e; exact row_owns_apart hr ol0 ht e))
  have room : ∀ {g : Nat} {l : List Int}, Room wr g l → g < b → Room w' g l := fun {g l} hr hg =>
    Row.same hr (hk.block g (Row.lt hr) (fun e => by rcases e with e | e; have := (t.om.lt g e).1; omega; have := (t.ol.lt g e).1; omega))
  have own : ∀ {v : Value} {l : List Int}, wr.ownsRow b2 3 1 v l.length (ints l) → w'.ownsRow b2 3 1 v l.length (ints l) := fun {v l} ho =>
    owns_same ho fun g e => hk.block g (ho.lt g e).2 (fun q => by have := (ho.lt g e).1; rcases q with q | q; have := t.hm g q; omega; have := t.hl g q; omega)
  refine ⟨row h.rI (by decide), row h.rR (by decide), row h.rJ (by decide), row h.rO (by decide), row h.rP (by decide), room h.ha h.la, room h.hm h.lm, room h.hs h.ls, own h.m2, own h.l2, ?_, h.la, h.lm, h.ls, h.lb, h.le⟩
  exact h.below.trans (hk.toBelow h.below.size (fun g e => by have := h.lb; rcases e with e | e; have := (t.om.lt g e).1; omega; have := (t.ol.lt g e).1; omega))

theorem Fr.step (h : Fr w b b2 I R J O P ga gm gs vI vJ vO vP args mem spill ml2 ll2 mv2 lv2 wr) (t : Two b b2 mv lv ml ll wr) (hb : Below wr.heap.size wr w') :
    Fr w b b2 I R J O P ga gm gs vI vJ vO vP args mem spill ml2 ll2 mv2 lv2 w' ∧ Two b b2 mv lv ml ll w' :=
  ⟨h.keep t ((Keep.refl _ _).below hb (Nat.le_refl _)), ⟨owns_below t.om hb (Nat.le_refl _), owns_below t.ol hb (Nat.le_refl _), t.apart, t.hm, t.hl⟩⟩

theorem Fr.stepM (h : Fr w b b2 I R J O P ga gm gs vI vJ vO vP args mem spill ml2 ll2 mv2 lv2 wr) (t : Two b b2 mv lv ml ll wr) (hk : Keep (fun g => mv.ownBlock = some g) wr w') {ml' : List Int} (ho : w'.ownsRow b 3 1 mv ml'.length (ints ml')) :
    Fr w b b2 I R J O P ga gm gs vI vJ vO vP args mem spill ml2 ll2 mv2 lv2 w' ∧ Two b b2 mv lv ml' ll w' :=
  ⟨h.keep t (hk.mono (fun g e => .inl e)), ⟨ho, owns_same t.ol fun g e => hk.block g (t.ol.lt g e).2 (fun q => t.apart g q e), t.apart, t.hm, t.hl⟩⟩

theorem Fr.stepL (h : Fr w b b2 I R J O P ga gm gs vI vJ vO vP args mem spill ml2 ll2 mv2 lv2 wr) (t : Two b b2 mv lv ml ll wr) (hk : Keep (fun g => lv.ownBlock = some g) wr w') {ll' : List Int} (ho : w'.ownsRow b 3 1 lv ll'.length (ints ll')) :
    Fr w b b2 I R J O P ga gm gs vI vJ vO vP args mem spill ml2 ll2 mv2 lv2 w' ∧ Two b b2 mv lv ml ll' w' :=
  ⟨h.keep t (hk.mono (fun g e => .inr e)), ⟨owns_same t.om fun g e => hk.block g (t.om.lt g e).2 (fun q => t.apart g e q), ho, t.apart, t.hm, t.hl⟩⟩

/-- A store into the first list. -/
theorem Fr.setM (h : Fr w b b2 I R J O P ga gm gs vI vJ vO vP args mem spill ml2 ll2 mv2 lv2 wr) (t : Two b b2 mv lv ml ll wr) {g i : Nat} (hg : mv.ownBlock = some g) (hi : i < ml.length) (u : Int) :
    Fr w b b2 I R J O P ga gm gs vI vJ vO vP args mem spill ml2 ll2 mv2 lv2 (wr.setCell ⟨g, i, none⟩ (.int .i64 u)) ∧ Two b b2 mv lv (ml.set i u) ll (wr.setCell ⟨g, i, none⟩ (.int .i64 u)) := by
  refine h.stepM t ((Keep.refl _ _).setCell (.inl hg) _) ?_
  have := owns_set t.om hg (i := i) (by rw [ints_length]; exact hi) (.int .i64 u)
  rw [← ints_set] at this
  rw [List.length_set]
  exact this

theorem Fr.setL (h : Fr w b b2 I R J O P ga gm gs vI vJ vO vP args mem spill ml2 ll2 mv2 lv2 wr) (t : Two b b2 mv lv ml ll wr) {g i : Nat} (hg : lv.ownBlock = some g) (hi : i < ll.length) (u : Int) :
    Fr w b b2 I R J O P ga gm gs vI vJ vO vP args mem spill ml2 ll2 mv2 lv2 (wr.setCell ⟨g, i, none⟩ (.int .i64 u)) ∧ Two b b2 mv lv ml (ll.set i u) (wr.setCell ⟨g, i, none⟩ (.int .i64 u)) := by
  refine h.stepL t ((Keep.refl _ _).setCell (.inl hg) _) ?_
  have := owns_set t.ol hg (i := i) (by rw [ints_length]; exact hi) (.int .i64 u)
  rw [← ints_set] at this
  rw [List.length_set]
  exact this

end

end Go.Proofs.Ytblhmeidbjigaaa

/- How long the lists of an outcome are. -/
set_option linter.unusedSimpArgs false
set_option linter.unusedVariables false
namespace Go.Proofs.Ytblhmeidbjigaaa
open Go.RowKit

theorem runN_sizes {bs : List BlockD} (hb : ∀ k, (bops bs k).length ≤ 12) (f : Nat) (i : Int) {s : RunD} {r c k : Int} (hs : Sized s r c k) : ((runN bs f i s).mem.length : Int) ≤ c ∧ (runN bs f i s).leak.length ≤ s.leak.length + 25 * f := by
  induction f generalizing i s with
  | zero => exact ⟨by show (s.cells.length : Int) ≤ c; have := hs.cells; omega, by show s.leak.length ≤ _; omega⟩
  | succ f ih =>
    have h1 := hs.doOps (bops bs i.toNat)
    have h2 := doOps_leak (bops bs i.toNat) s
    have h3 := hb i.toNat
    have hc0 : (0 : Int) ≤ c := by have := hs.cells; omega
    simp only [runN]
    split
    · exact ⟨by simpa using hc0, by simp only; omega⟩
    · split
      · exact ⟨by simp only; have := h1.cells; omega, by simp only; omega⟩
      · have h4 := goesOn_leak (doOps (bops bs i.toNat) s) (bfin bs i.toNat)
        obtain ⟨q1, q2⟩ := ih (goesTo (doOps (bops bs i.toNat) s) (bfin bs i.toNat)) (h1.on (bfin bs i.toNat))
        exact ⟨q1, by omega⟩

theorem RunAns.sizes {s : ByteArray} {args mem spill : List Int} {fuel : Int} {o : OutD} {e : Int} (h : RunAns s args mem spill fuel o e) : o.mem.length ≤ 100000 ∧ o.leak.length ≤ 100000 := by
  rcases h with ⟨_, rfl, _⟩ | ⟨p, hg, _, h⟩
  · simp [outZ]
  · rcases h with ⟨_, rfl, _⟩ | ⟨_, rfl, _, _⟩ | ⟨_, hf, hfu, rfl⟩
    · simp [outZ]
    · simp [outZ]
    · have hgg := hg
      simp only [progGood, Bool.and_eq_true, decide_eq_true_eq] at hgg
      obtain ⟨⟨⟨⟨⟨g1, g2⟩, g3⟩, g4⟩, g5⟩, g6⟩ := hgg
      have hb : ∀ k, (bops p.blocks k).length ≤ 12 := by
        intro k
        by_cases hk : k < p.blocks.length
        · exact (blocksGood_at g6 hk).1
        · have : bops p.blocks k = [] := by simp [bops, List.getD, hk, bz]
          rw [this]; simp
      obtain ⟨q1, q2⟩ := runN_sizes hb fuel.toNat 0 (begins_sized hg hf)
      have hz : (begins p args mem spill).leak.length = 0 := rfl
      omega

end Go.Proofs.Ytblhmeidbjigaaa

/- Run held against the document's answer. -/
set_option linter.unusedSimpArgs false
set_option linter.unusedVariables false
namespace Go.Proofs.Ytblhmeidbjigaaa
open Go.RowKit

theorem roomy_cps' (v : Value) (l : List Int) (w : World) (hr : RdWords w v l) (hn : l.length ≤ 17592186044416) (Post : Ending → World → Prop)
    (hp : ∀ g w', w.heap.size ≤ g → g < w'.heap.size → Room w' g l → Below w.heap.size w w' → Post (.returned (.slice (some ⟨g, 0, none⟩) l.length (l.length + 2))) w') :
    Calls Try.prog 52 #[v] w Post :=
  roomy_cps v l w hr hn Post (fun w' h1 h2 h3 => hp w.heap.size w' (Nat.le_refl _) h3 h1 h2)

/-- A list whose first k words are x. -/
def Upto (l : List Int) (k : Nat) (x : Int) : Prop := ∀ i, i < k → l.getD i 0 = x

theorem Upto.set {l : List Int} {k : Nat} {x : Int} (h : Upto l k x) (hk : k < l.length) : Upto (l.set k x) (k + 1) x := by
  intro i hi
  by_cases e : i = k
  · subst e; simp [List.getD, hk]
  · have := h i (by omega)
    simp only [List.getD] at this ⊢
    rw [List.getElem?_set_ne (by omega)]
    exact this

set_option maxRecDepth 100000 in
set_option maxHeartbeats 4000000 in
theorem ran_cps (s : ByteArray) (av mv0 sv0 : Value) (args mem spill : List Int) (fuel : Int) (w : World) (ha : RdWords w av args) (hm : RdWords w mv0 mem) (hsp : RdWords w sv0 spill) (hla : args.length ≤ 17592186044416) (hlm : mem.length ≤ 17592186044416) (hls : spill.length ≤ 17592186044416) (hs : s.size ≤ maxLen) (Post : Ending → World → Prop)
    (hp : ∀ k r mo mn mc lo ln lc w', Below w.heap.size w w' → Post (.returned (.tuple #[.agg #[.int .i64 k, .int .i64 r, .slice mo mn mc, .slice lo ln lc], .bool true])) w') :
    Calls Try.prog 20 #[.string s, .agg #[av, mv0, sv0], .int .i64 fuel, .int .i64 0] w Post := by
  obtain ⟨ao, ac, rfl, _, _⟩ := id ha
  obtain ⟨mo, mc, rfl, _, _⟩ := id hm
  obtain ⟨so, sc, rfl, _, _⟩ := id hsp
  obtain ⟨W, hW⟩ : ∃ W, W = ((w.alloc (.cells #[.slice ao args.length ac, .slice mo mem.length mc, .slice so spill.length sc] 52)).alloc (.cells #[.int .i64 0, .int .i64 0, .slice none 0 0, .slice none 0 0] 54)).alloc (.cells #[.slice none 0 0, .slice none 0 0, .slice none 0 0] 52) := ⟨_, rfl⟩
  have hzW : w.heap.size + 3 ≤ W.heap.size := by rw [hW]; simp
  have rI : Row W w.heap.size 52 [.slice ao args.length ac, .slice mo mem.length mc, .slice so spill.length sc] := by
    rw [hW]
    have q : Row (w.alloc (.cells #[.slice ao args.length ac, .slice mo mem.length mc, .slice so spill.length sc] 52)) w.heap.size 52 [.slice ao args.length ac, .slice mo mem.length mc, .slice so spill.length sc] := heap_alloc_new w _
    exact (q.alloc _).alloc _
  have rR : Row W (w.heap.size + 1) 54 zOut := by
    rw [hW]
    have q : Row ((w.alloc (.cells #[.slice ao args.length ac, .slice mo mem.length mc, .slice so spill.length sc] 52)).alloc (.cells #[.int .i64 0, .int .i64 0, .slice none 0 0, .slice none 0 0] 54)) (w.heap.size + 1) 54 zOut := heap_alloc2_new w _ _
    exact q.alloc _
  have rJ : Row W (w.heap.size + 2) 52 [.slice none 0 0, .slice none 0 0, .slice none 0 0] := by
    rw [hW]
    have q := heap_alloc2_new (w.alloc (.cells #[.slice ao args.length ac, .slice mo mem.length mc, .slice so spill.length sc] 52)) (.cells #[.int .i64 0, .int .i64 0, .slice none 0 0, .slice none 0 0] 54) (.cells #[.slice none 0 0, .slice none 0 0, .slice none 0 0] 52)
    simp only [World.size_alloc] at q
    exact q
  have hbW : Below w.heap.size w W := by rw [hW]; exact (((Below.refl w.heap.size w).alloc (Nat.le_refl _) _).alloc (by simp) _).alloc (by simp; omega) _
  have c0 := rI.cell (i := 0) rfl
  rw [hW] at c0
  go_enter Try.func20, Try.ntmps20
  go_wp2_with fail
  rw [← hW]
  clear hW c0
  refine roomy_cps' _ args W (ha.keep hbW) hla _ ?_
  intro ga w1 hg1 hlt1 hr1 hb1
  have hz1 : W.heap.size ≤ w1.heap.size := by have := hb1.size; (try simp at this); omega
  have hgz1 : W.heap.size ≤ ga := by (try simp at hg1); omega
  have rI1 := (rI.keep hb1).unset (a := ⟨w.heap.size + 2, 0, none⟩) (by show w.heap.size ≠ w.heap.size + 2; omega) (.slice (some ⟨ga, 0, none⟩) args.length (args.length + 2))
  have rR1 := (rR.keep hb1).unset (a := ⟨w.heap.size + 2, 0, none⟩) (by show w.heap.size + 1 ≠ w.heap.size + 2; omega) (.slice (some ⟨ga, 0, none⟩) args.length (args.length + 2))
  have rK1 := rJ.keep hb1
  have z1 := rK1.cell (i := 0) rfl
  have zf1 := rK1.frozen 0
  have rJ1 := rK1.set 0 (.slice (some ⟨ga, 0, none⟩) args.length (args.length + 2))
  have hbb1 := (hbW.trans (hb1.mono (by (try simp); omega))).setCell (p := ⟨w.heap.size + 2, 0, none⟩) (by show w.heap.size ≤ w.heap.size + 2; omega) (.slice (some ⟨ga, 0, none⟩) args.length (args.length + 2))
  have roomga1 := Row.unset hr1 (a := ⟨w.heap.size + 2, 0, none⟩) (by show ga ≠ w.heap.size + 2; omega) (.slice (some ⟨ga, 0, none⟩) args.length (args.length + 2))
  have c1 := rI1.cell (i := 1) rfl
  go_wp2_with fail
  refine roomy_cps' _ mem _ (hm.keep hbb1) hlm _ ?_
  clear c1 z1 zf1 rK1
  intro gm w2 hg2 hlt2 hr2 hb2
  have hz2 : W.heap.size ≤ w2.heap.size := by have := hb2.size; (try simp at this); omega
  have hgz2 : W.heap.size ≤ gm := by (try simp at hg2); omega
  have rI2 := (rI1.keep hb2).unset (a := ⟨w.heap.size + 2, 1, none⟩) (by show w.heap.size ≠ w.heap.size + 2; omega) (.slice (some ⟨gm, 0, none⟩) mem.length (mem.length + 2))
  have rR2 := (rR1.keep hb2).unset (a := ⟨w.heap.size + 2, 1, none⟩) (by show w.heap.size + 1 ≠ w.heap.size + 2; omega) (.slice (some ⟨gm, 0, none⟩) mem.length (mem.length + 2))
  have rK2 := rJ1.keep hb2
  have z2 := rK2.cell (i := 1) rfl
  have zf2 := rK2.frozen 1
  have rJ2 := rK2.set 1 (.slice (some ⟨gm, 0, none⟩) mem.length (mem.length + 2))
  have hbb2 := (hbb1.trans (hb2.mono (by (try simp); omega))).setCell (p := ⟨w.heap.size + 2, 1, none⟩) (by show w.heap.size ≤ w.heap.size + 2; omega) (.slice (some ⟨gm, 0, none⟩) mem.length (mem.length + 2))
  have roomga12 := Row.unset (Row.keep roomga1 hb2) (a := ⟨w.heap.size + 2, 1, none⟩) (by show ga ≠ w.heap.size + 2; omega) (.slice (some ⟨gm, 0, none⟩) mem.length (mem.length + 2))
  have roomgm2 := Row.unset hr2 (a := ⟨w.heap.size + 2, 1, none⟩) (by show gm ≠ w.heap.size + 2; omega) (.slice (some ⟨gm, 0, none⟩) mem.length (mem.length + 2))
  have c2 := rI2.cell (i := 2) rfl
  go_wp2_with fail
  refine roomy_cps' _ spill _ (hsp.keep hbb2) hls _ ?_
  clear c2 z2 zf2 rK2
  intro gs w3 hg3 hlt3 hr3 hb3
  have hz3 : W.heap.size ≤ w3.heap.size := by have := hb3.size; (try simp at this); omega
  have hgz3 : W.heap.size ≤ gs := by (try simp at hg3); omega
  have rI3 := (rI2.keep hb3).unset (a := ⟨w.heap.size + 2, 2, none⟩) (by show w.heap.size ≠ w.heap.size + 2; omega) (.slice (some ⟨gs, 0, none⟩) spill.length (spill.length + 2))
  have rR3 := (rR2.keep hb3).unset (a := ⟨w.heap.size + 2, 2, none⟩) (by show w.heap.size + 1 ≠ w.heap.size + 2; omega) (.slice (some ⟨gs, 0, none⟩) spill.length (spill.length + 2))
  have rK3 := rJ2.keep hb3
  have z3 := rK3.cell (i := 2) rfl
  have zf3 := rK3.frozen 2
  have rJ3 := rK3.set 2 (.slice (some ⟨gs, 0, none⟩) spill.length (spill.length + 2))
  have hbb3 := (hbb2.trans (hb3.mono (by (try simp); omega))).setCell (p := ⟨w.heap.size + 2, 2, none⟩) (by show w.heap.size ≤ w.heap.size + 2; omega) (.slice (some ⟨gs, 0, none⟩) spill.length (spill.length + 2))
  have roomga123 := Row.unset (Row.keep roomga12 hb3) (a := ⟨w.heap.size + 2, 2, none⟩) (by show ga ≠ w.heap.size + 2; omega) (.slice (some ⟨gs, 0, none⟩) spill.length (spill.length + 2))
  have roomgm23 := Row.unset (Row.keep roomgm2 hb3) (a := ⟨w.heap.size + 2, 2, none⟩) (by show gm ≠ w.heap.size + 2; omega) (.slice (some ⟨gs, 0, none⟩) spill.length (spill.length + 2))
  have roomgs3 := Row.unset hr3 (a := ⟨w.heap.size + 2, 2, none⟩) (by show gs ≠ w.heap.size + 2; omega) (.slice (some ⟨gs, 0, none⟩) spill.length (spill.length + 2))
  have ra : Room _ ga args := roomga123
  have rm : Room _ gm mem := roomgm23
  have rs : Room _ gs spill := roomgs3
  have j0 := rJ3.cell (i := 0) rfl
  have j1 := rJ3.cell (i := 1) rfl
  have j2 := rJ3.cell (i := 2) rfl
  go_wp2_with fail
  refine tRun_cps s _ _ _ args mem spill fuel _ (ra.rd (by omega)) (rm.rd (by omega)) (rs.rd (by omega)) hs _ ?_
  clear j0 j1 j2 z3 zf3 rK3
  intro o e mv lv w4 hans ho
  obtain ⟨b, hb⟩ : ∃ b, b = (w3.setCell ⟨w.heap.size + 2, 2, none⟩ (.slice (some ⟨gs, 0, none⟩) spill.length (spill.length + 2))).heap.size := ⟨_, rfl⟩
  have hbz : b = w3.heap.size := by rw [hb]; simp
  have hoB := ho.below
  have om := ho.mem
  have ol := ho.leak
  rw [← hb] at om ol
  have hlga : ga < b := by have := Row.lt ra; rw [hb]; exact this
  have hlgm : gm < b := by have := Row.lt rm; rw [hb]; exact this
  have hlgs : gs < b := by have := Row.lt rs; rw [hb]; exact this
  have hzb : w.heap.size ≤ b := by omega
  have hz4 : b ≤ w4.heap.size := by rw [hb]; exact hoB.size
  have rI4 := rI3.keep hoB
  have rR4 := rR3.keep hoB
  have rJ4 := rJ3.keep hoB
  have ra4 := ra.keep hoB
  have rm4 := rm.keep hoB
  have rs4 := rs.keep hoB
  have hbb4 := hbb3.trans (hoB.mono (by simp; omega))
  obtain ⟨mo', mc', rfl⟩ := owns_slice om
  obtain ⟨lo', lc', rfl⟩ := owns_slice ol
  obtain ⟨w5, hw5⟩ : ∃ w5, w5 = w4.alloc (.cells #[.int .i64 o.kind, .int .i64 o.result, .slice mo' o.mem.length mc', .slice lo' o.leak.length lc'] 54) := ⟨_, rfl⟩
  have hal : Below w4.heap.size w4 w5 := by rw [hw5]; exact (Below.refl w4.heap.size w4).alloc (Nat.le_refl _) _
  have rO : Row w5 w4.heap.size 54 [.int .i64 o.kind, .int .i64 o.result, .slice mo' o.mem.length mc', .slice lo' o.leak.length lc'] := by rw [hw5]; exact heap_alloc_new w4 _
  have hbb5 := hbb4.trans (hal.mono (by omega))
  have rI5 := rI4.keep hal
  have hz5 : w4.heap.size ≤ w5.heap.size := hal.size
  have i0 := rI5.cell (i := 0) rfl
  have i1 := rI5.cell (i := 1) rfl
  have i2 := rI5.cell (i := 2) rfl
  rw [hw5] at i0 i1 i2
  have hap := ho.apart
  clear hb hbz ho rI rR rJ rI1 rR1 rJ1 rI2 rR2 rJ2 rI3 rR3 rJ3 ra rm rs hb1 hb2 hb3 hr1 hr2 hr3 hbb1 hbb2 hbb3 hoB hbW
  go_wp2_with fail
  rw [← hw5]
  clear hw5 i0 i1 i2
  refine rRun_cps s _ _ _ args mem spill fuel w5 (ha.keep hbb5) (hm.keep hbb5) (hsp.keep hbb5) hs _ ?_
  intro o2 e2 mv2 lv2 w6 hans2 ho2
  obtain ⟨rfl, rfl⟩ := hans2.one hans
  have hsz := hans.sizes
  obtain ⟨mo2, mc2, rfl⟩ := owns_slice ho2.mem
  obtain ⟨lo2, lc2, rfl⟩ := owns_slice ho2.leak
  obtain ⟨w7, hw7⟩ : ∃ w7, w7 = w6.alloc (.cells #[.int .i64 o2.kind, .int .i64 o2.result, .slice mo2 o2.mem.length mc2, .slice lo2 o2.leak.length lc2] 54) := ⟨_, rfl⟩
  have hal2 : Below w6.heap.size w6 w7 := by rw [hw7]; exact (Below.refl w6.heap.size w6).alloc (Nat.le_refl _) _
  have h56 := ho2.below
  have h57 : Below w5.heap.size w5 w7 := h56.trans (hal2.mono h56.size)
  have h47 : Below w4.heap.size w4 w7 := hal.trans (h57.mono hz5)
  have hF : Fr w b w5.heap.size w.heap.size (w.heap.size + 1) (w.heap.size + 2) w4.heap.size w6.heap.size ga gm gs [.slice ao args.length ac, .slice mo mem.length mc, .slice so spill.length sc] [.slice (some ⟨ga, 0, none⟩) args.length (args.length + 2), .slice (some ⟨gm, 0, none⟩) mem.length (mem.length + 2), .slice (some ⟨gs, 0, none⟩) spill.length (spill.length + 2)] [.int .i64 o2.kind, .int .i64 o2.result, .slice mo' o2.mem.length mc', .slice lo' o2.leak.length lc'] [.int .i64 o2.kind, .int .i64 o2.result, .slice mo2 o2.mem.length mc2, .slice lo2 o2.leak.length lc2] args mem spill o2.mem o2.leak (.slice mo2 o2.mem.length mc2) (.slice lo2 o2.leak.length lc2) w7 :=
    ⟨rI4.keep h47, rR4.keep h47, rJ4.keep h47, rO.keep h57, by rw [hw7]; exact heap_alloc_new w6 _, ra4.keep h47, rm4.keep h47, rs4.keep h47, owns_below ho2.mem hal2 (Nat.le_refl _), owns_below ho2.leak hal2 (Nat.le_refl _), hbb4.trans (h47.mono (by omega)), hlga, hlgm, hlgs, hzb, by omega⟩
  have hT : Two b w5.heap.size (.slice mo' o2.mem.length mc') (.slice lo' o2.leak.length lc') o2.mem o2.leak w7 :=
    ⟨owns_below om h47 (Nat.le_refl _), owns_below ol h47 (Nat.le_refl _), hap, fun g q => by have := (om.lt g q).2; omega, fun g q => by have := (ol.lt g q).2; omega⟩
  have k0 := hF.rO.cell (i := 0) rfl
  have k1 := hF.rO.cell (i := 1) rfl
  have k2 := hF.rO.cell (i := 2) rfl
  have k3 := hF.rO.cell (i := 3) rfl
  have q0 := hF.rP.cell (i := 0) rfl
  have q1 := hF.rP.cell (i := 1) rfl
  have q2 := hF.rP.cell (i := 2) rfl
  have q3 := hF.rP.cell (i := 3) rfl
  rw [hw7] at k0 k1 k2 k3 q0 q1 q2 q3
  clear om ol hap rI4 rR4 rJ4 ra4 rm4 rs4 rO rI5 hal hal2 h56 h57 h47 ho2 hans hans2 hbb4
  generalize w5.heap.size = b2 at *
  generalize w4.heap.size = O at *
  go_wp2_with fail
  rw [← hw7]
  clear hw7 k0 k1 k2 k3 q0 q1 q2 q3
  refine (lSameOutcome_any o2.kind o2.result _ _ _ _ o2.mem o2.leak w7 (owns_rd hT.om) (owns_rd hT.ol) (owns_rd hF.m2) (owns_rd hF.l2)).mono ?_
  rintro e w8 ⟨rfl, hb8⟩
  obtain ⟨hF8, hT8⟩ := hF.step hT hb8
  have k2 := hF8.rO.cell (i := 2) rfl
  have hO8 := hF8.rO.lt
  clear hF hT hb8
  go_wp2_with fail
  refine (behind_any b _ o2.mem w8 hT8.om (by omega) hsz.1).mono ?_
  rintro e w9 ⟨rfl, hom, hk9⟩
  obtain ⟨hF9, hT9⟩ := hF8.stepM hT8 hk9 hom
  have k3 := hF9.rO.cell (i := 3) rfl
  have hO9 := hF9.rO.lt
  clear hF8 hT8 hom hk9 k2
  go_wp2_with fail
  refine (behind_any b _ o2.leak w9 hT9.ol (by omega) hsz.2).mono ?_
  rintro e w10 ⟨rfl, hol, hk10⟩
  obtain ⟨hF10, hT10⟩ := hF9.stepL hT9 hk10 hol
  clear hF9 hT9 hol hk10 k3
  have k0 := hF10.rO.cell (i := 0) rfl
  have q0 := hF10.rP.cell (i := 0) rfl
  have k1 := hF10.rO.cell (i := 1) rfl
  have q1 := hF10.rP.cell (i := 1) rfl
  have k2 := hF10.rO.cell (i := 2) rfl
  have q2 := hF10.rP.cell (i := 2) rfl
  have k3 := hF10.rO.cell (i := 3) rfl
  have q3 := hF10.rP.cell (i := 3) rfl
  go_wp2_with fail
  refine (lSameOutcome_any o2.kind o2.result _ _ _ _ o2.mem o2.leak w10 (owns_rd hT10.om) (owns_rd hT10.ol) (owns_rd hF10.m2) (owns_rd hF10.l2)).mono ?_
  rintro e w11 ⟨rfl, hb11⟩
  obtain ⟨hF11, hT11⟩ := hF10.step hT10 hb11
  clear hF10 hT10 hb11 k0 k1 k2 k3 q0 q1 q2 q3
  go_wp2
  go_loopw [16] (fun i wr => ∃ (k : Nat) (ml : List Int), k ≤ o2.mem.length ∧ i = .int .i64 k ∧ Hid (ml.length = o2.mem.length) ∧ Hid (Upto ml k 77) ∧ Fr w b b2 w.heap.size (w.heap.size + 1) (w.heap.size + 2) O w6.heap.size ga gm gs [.slice ao args.length ac, .slice mo mem.length mc, .slice so spill.length sc] [.slice (some ⟨ga, 0, none⟩) args.length (args.length + 2), .slice (some ⟨gm, 0, none⟩) mem.length (mem.length + 2), .slice (some ⟨gs, 0, none⟩) spill.length (spill.length + 2)] [.int .i64 o2.kind, .int .i64 o2.result, .slice mo' o2.mem.length mc', .slice lo' o2.leak.length lc'] [.int .i64 o2.kind, .int .i64 o2.result, .slice mo2 o2.mem.length mc2, .slice lo2 o2.leak.length lc2] args mem spill o2.mem o2.leak (.slice mo2 o2.mem.length mc2) (.slice lo2 o2.leak.length lc2) wr ∧ Two b b2 (.slice mo' o2.mem.length mc') (.slice lo' o2.leak.length lc') ml o2.leak wr)
    (fun i _ => o2.mem.length - (intOf i).toNat)
  case atStart => exact ⟨0, o2.mem, Nat.zero_le _, rfl, rfl, (fun i hi => by omega), hF11, hT11⟩
  case round =>
    clear hF11 hT11
    obtain ⟨k, ml, hk, rfl, hml, hup, hF, hT⟩ := hrel
    have k2 := hF.rO.cell (i := 2) rfl
    by_cases hlt : k < o2.mem.length
    · have hkl : k < ml.length := by have := hml.out; omega
      obtain ⟨g, cap', he, hg, hcell, hfz⟩ := OwnW.at (w := wr) (l := ml) (owns_base hT.om (Nat.zero_le _)) (i := k) hkl
      simp only [Value.slice.injEq] at he
      obtain ⟨rfl, _, rfl⟩ := he
      have ff := hfz k
      have hki : (0 : Int) ≤ (k : Int) := by omega
      have hkj : (k : Int) < (o2.mem.length : Int) := by omega
      obtain ⟨hF2, hT2⟩ := hF.setM hT hg (i := k) hkl 77
      have hml2 : Hid ((ml.set k 77).length = o2.mem.length) := by show _ = _; rw [List.length_set]; exact hml.out
      have hup2 : Hid (Upto (ml.set k 77) (k + 1) 77) := hup.out.set hkl
      clear hF hT
      go_wp2
      go_roundw
      case rel => exact ⟨k + 1, ml.set k 77, by omega, by go_num, hml2, hup2, hF2, hT2⟩
      case measure => simp [intOf]; omega
    · obtain rfl : k = o2.mem.length := by omega
      have k3 := hF.rO.cell (i := 3) rfl
      have q3 := hF.rP.cell (i := 3) rfl
      go_wp2_with fail
      refine (lSameInts_any _ _ o2.leak wr (owns_rd hT.ol) (owns_rd hF.l2)).mono ?_
      rintro e w12 ⟨rfl, hb12⟩
      obtain ⟨hF12, hT12⟩ := hF.step hT hb12
      clear hF hT hb12 k2 k3 q3
      go_wp2
      go_loopw [18] (fun i wr => ∃ (k : Nat) (ll : List Int), k ≤ o2.leak.length ∧ i = .int .i64 k ∧ Hid (ll.length = o2.leak.length) ∧ Fr w b b2 w.heap.size (w.heap.size + 1) (w.heap.size + 2) O w6.heap.size ga gm gs [.slice ao args.length ac, .slice mo mem.length mc, .slice so spill.length sc] [.slice (some ⟨ga, 0, none⟩) args.length (args.length + 2), .slice (some ⟨gm, 0, none⟩) mem.length (mem.length + 2), .slice (some ⟨gs, 0, none⟩) spill.length (spill.length + 2)] [.int .i64 o2.kind, .int .i64 o2.result, .slice mo' o2.mem.length mc', .slice lo' o2.leak.length lc'] [.int .i64 o2.kind, .int .i64 o2.result, .slice mo2 o2.mem.length mc2, .slice lo2 o2.leak.length lc2] args mem spill o2.mem o2.leak (.slice mo2 o2.mem.length mc2) (.slice lo2 o2.leak.length lc2) wr ∧ Two b b2 (.slice mo' o2.mem.length mc') (.slice lo' o2.leak.length lc') ml ll wr)
        (fun i _ => o2.leak.length - (intOf i).toNat)
      case atStart => exact ⟨0, o2.leak, Nat.zero_le _, rfl, rfl, hF12, hT12⟩
      case round =>
        clear hF12 hT12
        obtain ⟨k, ll, hk, rfl, hll, hF, hT⟩ := hrel
        have k3 := hF.rO.cell (i := 3) rfl
        by_cases hlt : k < o2.leak.length
        · have hkl : k < ll.length := by have := hll.out; omega
          obtain ⟨g, cap', he, hg, hcell, hfz⟩ := OwnW.at (w := wr) (l := ll) (owns_base hT.ol (Nat.zero_le _)) (i := k) hkl
          simp only [Value.slice.injEq] at he
          obtain ⟨rfl, _, rfl⟩ := he
          have ff := hfz k
          have hki : (0 : Int) ≤ (k : Int) := by omega
          have hkj : (k : Int) < (o2.leak.length : Int) := by omega
          obtain ⟨hF2, hT2⟩ := hF.setL hT hg (i := k) hkl 78
          have hll2 : Hid ((ll.set k 78).length = o2.leak.length) := by show _ = _; rw [List.length_set]; exact hll.out
          clear hF hT
          go_wp2
          go_roundw
          case rel => exact ⟨k + 1, ll.set k 78, by omega, by go_num, hll2, hF2, hT2⟩
          case measure => simp [intOf]; omega
        · obtain rfl : k = o2.leak.length := by omega
          go_wp2
          go_loopw [19, 20] (fun m i wr => ∃ (k : Nat), k ≤ o2.mem.length ∧ i = .int .i64 k ∧ m = .bool true ∧ Fr w b b2 w.heap.size (w.heap.size + 1) (w.heap.size + 2) O w6.heap.size ga gm gs [.slice ao args.length ac, .slice mo mem.length mc, .slice so spill.length sc] [.slice (some ⟨ga, 0, none⟩) args.length (args.length + 2), .slice (some ⟨gm, 0, none⟩) mem.length (mem.length + 2), .slice (some ⟨gs, 0, none⟩) spill.length (spill.length + 2)] [.int .i64 o2.kind, .int .i64 o2.result, .slice mo' o2.mem.length mc', .slice lo' o2.leak.length lc'] [.int .i64 o2.kind, .int .i64 o2.result, .slice mo2 o2.mem.length mc2, .slice lo2 o2.leak.length lc2] args mem spill o2.mem o2.leak (.slice mo2 o2.mem.length mc2) (.slice lo2 o2.leak.length lc2) wr ∧ Two b b2 (.slice mo' o2.mem.length mc') (.slice lo' o2.leak.length lc') ml ll wr)
            (fun _ i _ => o2.mem.length - (intOf i).toNat)
          case atStart => exact ⟨0, Nat.zero_le _, rfl, rfl, hF, hT⟩
          case round =>
            clear hF hT k3
            obtain ⟨k, hk, rfl, rfl, hF, hT⟩ := hrel
            have k2 := hF.rO.cell (i := 2) rfl
            by_cases hlt : k < o2.mem.length
            · have hkl : k < ml.length := by have := hml.out; omega
              obtain ⟨g, cap', he, hg, hcell, hfz⟩ := OwnW.at (w := wr) (l := ml) (owns_base hT.om (Nat.zero_le _)) (i := k) hkl
              simp only [Value.slice.injEq] at he
              obtain ⟨rfl, _, rfl⟩ := he
              rw [hup.out k hlt] at hcell
              have hki : (0 : Int) ≤ (k : Int) := by omega
              have hkj : (k : Int) < (o2.mem.length : Int) := by omega
              go_wp2
              go_roundw
              case rel => exact ⟨k + 1, by omega, by go_num, rfl, hF, hT⟩
              case measure => simp [intOf]; omega
            · obtain rfl : k = o2.mem.length := by omega
              have j0 := hF.rJ.cell (i := 0) rfl
              have n0 := hF.rI.cell (i := 0) rfl
              go_wp2_with fail
              refine (whole_any ga _ args wr hF.ha (ha.keep hF.below) hla).mono ?_
              rintro e w13 ⟨rfl, hb13⟩
              obtain ⟨hF13, hT13⟩ := hF.step hT hb13
              clear hF hT hb13 j0 n0 k2
              have j1 := hF13.rJ.cell (i := 1) rfl
              have n1 := hF13.rI.cell (i := 1) rfl
              go_wp2_with fail
              refine (whole_any gm _ mem w13 hF13.hm (hm.keep hF13.below) hlm).mono ?_
              rintro e w14 ⟨rfl, hb14⟩
              obtain ⟨hF14, hT14⟩ := hF13.step hT13 hb14
              clear hF13 hT13 hb14 j1 n1
              have j2 := hF14.rJ.cell (i := 2) rfl
              have n2 := hF14.rI.cell (i := 2) rfl
              go_wp2_with fail
              refine (whole_any gs _ spill w14 hF14.hs (hsp.keep hF14.below) hls).mono ?_
              rintro e w15 ⟨rfl, hb15⟩
              obtain ⟨hF15, hT15⟩ := hF14.step hT14 hb15
              clear hF14 hT14 hb15 j2 n2
              have k0 := hF15.rO.cell (i := 0) rfl
              have k1 := hF15.rO.cell (i := 1) rfl
              have k2 := hF15.rO.cell (i := 2) rfl
              have k3 := hF15.rO.cell (i := 3) rfl
              have y0 := hF15.rR.cell (i := 0) rfl
              have y1 := hF15.rR.cell (i := 1) rfl
              have y2 := hF15.rR.cell (i := 2) rfl
              have y3 := hF15.rR.cell (i := 3) rfl
              have f0 := hF15.rR.frozen 0
              have f1 := hF15.rR.frozen 1
              have f2 := hF15.rR.frozen 2
              have f3 := hF15.rR.frozen 3
              have hbE := out4_below hF15.below (show w.heap.size ≤ w.heap.size + 1 by omega) o2.kind o2.result (.slice mo' o2.mem.length mc') (.slice lo' o2.leak.length lc')
              have HF : Hid (Post (.returned (.tuple #[.agg #[.int .i64 o2.kind, .int .i64 o2.result, .slice mo' o2.mem.length mc', .slice lo' o2.leak.length lc'], .bool true])) (out4 w15 (w.heap.size + 1) o2.kind o2.result (.slice mo' o2.mem.length mc') (.slice lo' o2.leak.length lc'))) := hp _ _ _ _ _ _ _ _ _ hbE
              clear hp hbE hF15 hT15
              unfold out4 at HF
              go_wp2
              (try simp only [Exit.inBlock, Exit.then])
              refine bodyPost_ret (v := .tuple #[.agg #[.int .i64 o2.kind, .int .i64 o2.result, .slice mo' o2.mem.length mc', .slice lo' o2.leak.length lc'], .bool true]) ?_ rfl ?_
              · simp [results, Try.results20, go_sem, y0, y1, y2, y3]
              · exact HF.out

end Go.Proofs.Ytblhmeidbjigaaa

/- A hint that came in, read. -/
set_option linter.unusedSimpArgs false
set_option linter.unusedVariables false
namespace Go.Proofs.Ytblhmeidbjigaaa
open Go.RowKit Go.ChangeShapes Go.WideShapes Go.ChangeAt Go.Deep

theorem Try.cellsInt : Try.prog.cellsOf 3 = 1 := by kernel_rfl
section
variable {H : Type} {enc : TypeId × Value → H} {w : World} {spare : Nat → Bool} {held : Bool}

theorem cells_get {base n : Nat} {a : Addr} {cs : List Value} (h : w.cells? base a n = some cs) : cs.length = n ∧ ∀ i (hi : i < cs.length), w.cell? (a.add i) = some cs[i] := by
  obtain ⟨_, hl, hc⟩ := World.cells?_some h
  refine ⟨hl, fun i hi => ?_⟩
  have := hc i (by omega)
  rw [List.getElem?_eq_getElem hi] at this
  exact this

/-- The address of a slice's first cell, where there is one. -/
theorem addr_lit {a : Addr} {v : Value} (h : w.cell? (a.add 0) = some v) : a = ⟨a.block, a.off, none⟩ := by
  have e : a.add 0 = a := by simp [Addr.add]
  rw [e] at h
  have hs := World.cell?_spot h
  cases a
  simp at hs
  rw [hs]

end

end Go.Proofs.Ytblhmeidbjigaaa

/- A list of words that came in, read. -/
set_option linter.unusedSimpArgs false
set_option linter.unusedVariables false
namespace Go.Proofs.Ytblhmeidbjigaaa
open Go.RowKit Go.ChangeShapes Go.WideShapes Go.ChangeAt Go.Deep

theorem Try.bytesInt : Try.prog.bytesOf 3 = 8 := by kernel_rfl

/-- Words: within 64 bits. -/
def Wide (l : List Int) : Prop := ∀ x ∈ l, -9223372036854775808 ≤ x ∧ x ≤ 9223372036854775807

section
variable {H : Type} {enc : TypeId × Value → H} {w : World} {spare : Nat → Bool} {held : Bool}

theorem open_words {fuel : Nat} {v : Value} {x : DataW H × List MemPlace} (h : DataW.trod enc Try.prog w 0 spare held fuel 36 [v] = some x) (hs : ∀ n ∈ x.1.weights Try.prog 36, n ≤ reachBytes) :
    ∃ l, RdWords w v l ∧ l.length ≤ 17592186044416 ∧ Wide l := by
  rcases open_slice Try.underlying36 h with ⟨e, _⟩ | ⟨a, len, cap, m, n, D, Pl, e, _, hlc, hcm, hm, hx, hel⟩
  · simp at e
    subst e
    exact ⟨[], rdWords_nil w, by simp, fun x hx => by cases hx⟩
  · simp at e
    subst e
    have hlm : len ≤ m := by rw [hm]; split <;> omega
    have key : ∀ i, i < len → ∃ p : Int, w.cell? (a.add i) = some (.int .i64 p) ∧ -9223372036854775808 ≤ p ∧ p ≤ 9223372036854775807 := by
      intro i hi
      obtain ⟨cs', hc, ht⟩ := hel i (by omega)
      rw [Try.cellsInt] at hc
      obtain ⟨x0, rfl, _, hwf⟩ := DataW.trod_int Try.underlying3 ht
      have := (cells_get hc).2
      refine ⟨x0, ?_, ?_⟩
      · have := this 0 (by simp); simpa [add_add] using this
      · simp only [Lit.wf, Bool.and_eq_true, decide_eq_true_eq] at hwf
        exact ⟨Int.le_trans (by decide) hwf.1, Int.le_trans hwf.2 (by decide)⟩
    obtain ⟨f, hf⟩ := @choose_lt Int ⟨0⟩ len _ key
    have hw : len * 8 ≤ reachBytes := by
      have := hs ((len + (m - len)) * 8) (by rw [hx]; simp [DataW.weights, Try.underlying36, Try.bytesInt])
      omega
    have hlen : len ≤ 17592186044416 := by unfold reachBytes at hw; omega
    refine ⟨(List.range len).map f, ⟨some a, cap, by simp, by simp; omega, fun i hi => ?_⟩, by simpa using hlen, ?_⟩
    · have hi' : i < len := by simpa using hi
      obtain ⟨c1, _⟩ := hf i hi'
      have ha := addr_lit (by simpa using (hf 0 (by omega)).1)
      rw [ha, Addr.add_lit] at c1
      refine ⟨a.block, a.off, by rw [← ha], ?_⟩
      rw [c1]; simp [List.getD, hi']
    · intro x hx
      obtain ⟨i, hi, rfl⟩ := List.mem_map.1 hx
      exact (hf i (by simpa using hi)).2

end

end Go.Proofs.Ytblhmeidbjigaaa
