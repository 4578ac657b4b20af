/- P12 (4) as the code goes about it; pure. -/
import Derived.Test.YtblhmeidbjigaaaGreatDoorRows
import Derived.WalkKit
import Derived.WalkSpells
import Derived.WalkLawsBesides
import Derived.Laws.BytesArg
import Derived.Deep.QuietTactic
import Derived.BigQuiet
import Derived.Deep.RegionHeld3
import Derived.Lib.ItoaNum
import Derived.Lib.ItoaLen
import Derived.OpenShut
import Derived.Maps.AppendAt
import Derived.StillTailTactics
import Derived.Shelf.Strconv.Itoa3
import Derived.Shelf.Lay
import Derived.Ground.NamesProg
import Derived.Lib.SmallJoins
import Derived.Lib.Hide
import Derived.Test.YtblhmeidbjigaaaGreatDoorVCmCToVCmFRenamed

set_option linter.unusedSimpArgs false
set_option linter.unusedVariables false
noncomputable section
namespace Go.Proofs.YtblhmeidbjigaaaGreatDoor
open Go.RowKit Classical

/-- A mark's text. -/
def showM : MD → List UInt8
  | .cell u => 64 :: 32 :: showT u
  | .div u v => 47 :: 32 :: (showT u ++ 32 :: showT v)

def MD.fine : MD → Prop
  | .cell u => u.fine
  | .div u v => u.fine ∧ v.fine

theorem stops_sp (x : List UInt8) : Stops (32 :: x) := fun a b e => by
  first
  | (cases e; decide)
  | (cases e; simp)
  | skip

theorem showM_inj {m n : MD} (hm : m.fine) (hn : n.fine) (h : showM m = showM n) : m = n := by
  cases m with
  | cell u =>
    cases n with
    | cell v => simp only [showM, List.cons.injEq, true_and] at h; rw [show_inj hm.ok hn.ok h]
    | div v w => simp [showM] at h
  | div u v =>
    cases n with
    | cell w => simp [showM] at h
    | div u' v' =>
      simp only [showM, List.cons.injEq, true_and] at h
      obtain ⟨rfl, e⟩ := show_cut u u' (32 :: showT v) (32 :: showT v') hm.1.ok hn.1.ok (stops_sp _) (stops_sp _) h
      simp only [List.cons.injEq, true_and] at e
      rw [show_inj hm.2.ok hn.2.ok e]

theorem div_text (u v : TD) (data : Int) : divText u v = if idle data (.div u v) = true then [] else showM (.div u v) := by
  unfold divText
  simp only [idle, showM]
  rcases Option.eq_none_or_eq_some u.isNum with hb | ⟨x, hb⟩
  · simp [hb]
  · rcases Option.eq_none_or_eq_some v.isNum with hc | ⟨y, hc⟩
    · simp [hb, hc]
    · by_cases hy : y = 0 <;> simp [hb, hc, hy]

theorem cell_text (u : TD) (data : Int) : cellText data u = if idle data (.cell u) = true then [] else showM (.cell u) := by
  unfold cellText
  simp only [idle, showM]
  rcases Option.eq_none_or_eq_some u.isNum with hb | ⟨x, hb⟩
  · simp [hb]
  · by_cases hx : 0 ≤ x ∧ x < data
    · simp [hb, hx]
    · have : ¬ (0 ≤ x ∧ x < data) := hx
      simp only [hb]
      rw [if_neg hx, if_neg (by simpa using hx)]

theorem opMark_text (data : Int) (was : Int → TD) (o : OpD) : opMarkT data was o = match opMark was o with | none => [] | some m => if idle data m = true then [] else showM m := by
  unfold opMarkT opMark
  by_cases h1 : o.kind = 11
  · rw [if_pos h1, if_pos h1, div_text _ _ data]
  · rw [if_neg h1, if_neg h1]
    by_cases h2 : o.kind = 12
    · rw [if_pos h2, if_pos h2, cell_text]
    · rw [if_neg h2, if_neg h2]
      by_cases h3 : o.kind = 13
      · rw [if_pos h3, if_pos h3, cell_text]
      · rw [if_neg h3, if_neg h3]

theorem showM_ne (m : MD) : showM m ≠ [] := by cases m <;> simp [showM]

theorem map_mem_fine {l : List MD} {m : MD} (hl : ∀ x ∈ l, x.fine) (hm : m.fine) : showM m ∈ l.map showM ↔ m ∈ l := by
  constructor
  · intro h
    obtain ⟨x, hx, e⟩ := List.mem_map.1 h
    rw [← showM_inj (hl x hx) hm e]; exact hx
  · exact fun h => List.mem_map_of_mem h

theorem marks_show {regs slots data : Int} {names : List Int} {ops : List OpD} (hf : ∀ k, k ≤ ops.length → ∀ i : Int, 0 ≤ i → i ≤ regs + slots → (behindT regs slots names ops k i).fine) (hg : opsGood regs slots ops = true) (hr : 0 ≤ regs) (hs : 0 ≤ slots) :
    ∀ k, k ≤ ops.length → marksT regs slots data names ops k = (marksD regs slots data names ops k).map showM ∧ ∀ m ∈ marksD regs slots data names ops k, m.fine := by
  intro k
  induction k with
  | zero => intro _; exact ⟨rfl, fun m hm => by simp [marksD] at hm⟩
  | succ k ih =>
    intro hk
    obtain ⟨e, hfine⟩ := ih (by omega)
    have hraw : rawMark regs slots names ops k = opMark (behindT regs slots names ops k) (ops.getD k oz) := rfl
    have hgo : opGood regs slots (ops.getD k oz) = true := good_op hg (by omega)
    have hmf : ∀ m, opMark (behindT regs slots names ops k) (ops.getD k oz) = some m → m.fine := by
      intro m hm
      unfold opMark at hm
      unfold opGood at hgo
      by_cases h1 : (ops.getD k oz).kind = 11
      · rw [if_neg (by omega), if_pos (by omega)] at hgo
        simp only [Bool.and_eq_true, below, decide_eq_true_eq] at hgo
        rw [if_pos h1] at hm
        cases hm
        exact ⟨hf k (by omega) _ (by omega) (by omega), hf k (by omega) _ (by omega) (by omega)⟩
      · rw [if_neg h1] at hm
        by_cases h2 : (ops.getD k oz).kind = 12
        · rw [if_neg (by omega), if_neg (by omega), if_pos (by omega)] at hgo
          simp only [Bool.and_eq_true, below, decide_eq_true_eq] at hgo
          rw [if_pos h2] at hm
          cases hm
          exact hf k (by omega) _ (by omega) (by omega)
        · rw [if_neg h2] at hm
          by_cases h3 : (ops.getD k oz).kind = 13
          · rw [if_neg (by omega), if_neg (by omega), if_pos (by omega)] at hgo
            simp only [Bool.and_eq_true, below, decide_eq_true_eq] at hgo
            rw [if_pos h3] at hm
            cases hm
            exact hf k (by omega) _ (by omega) (by omega)
          · rw [if_neg h3] at hm; cases hm
    rw [marks_step, opMark_text, e]
    have eD : marksD regs slots data names ops (k + 1) = match opMark (behindT regs slots names ops k) (ops.getD k oz) with
      | some m => if idle data m = true ∨ m ∈ marksD regs slots data names ops k then marksD regs slots data names ops k else marksD regs slots data names ops k ++ [m]
      | none => marksD regs slots data names ops k := rfl
    rw [eD]
    cases hm : opMark (behindT regs slots names ops k) (ops.getD k oz) with
    | none => exact ⟨by simp only; rw [laid_nil], hfine⟩
    | some m =>
      simp only
      by_cases hi : idle data m = true
      · rw [if_pos hi, if_pos (.inl hi), laid_nil]; exact ⟨rfl, hfine⟩
      · rw [if_neg hi]
        by_cases hmem : m ∈ marksD regs slots data names ops k
        · rw [if_pos (.inr hmem), laid_in ((map_mem_fine hfine (hmf m hm)).2 hmem)]; exact ⟨rfl, hfine⟩
        · rw [if_neg (by simp [hi, hmem]), laid_new (showM_ne m) (fun q => hmem ((map_mem_fine hfine (hmf m hm)).1 q))]
          refine ⟨by simp, fun x hx => ?_⟩
          rcases List.mem_append.1 hx with q | q
          · exact hfine x q
          · simp at q; rw [q]; exact hmf m hm

theorem map_show_inj : ∀ {l n : List MD}, (∀ m ∈ l, m.fine) → (∀ m ∈ n, m.fine) → l.map showM = n.map showM → l = n
  | [], [], _, _, _ => rfl
  | [], y :: n, _, _, h => by simp at h
  | x :: l, [], _, _, h => by simp at h
  | x :: l, y :: n, hl, hn, h => by
    simp only [List.map_cons, List.cons.injEq] at h
    rw [showM_inj (hl x (by simp)) (hn y (by simp)) h.1, map_show_inj (fun m hm => hl m (by simp [hm])) (fun m hm => hn m (by simp [hm])) h.2]

section
variable (p q : ProgD) (h : List PingD) (b : Nat)

def exL : ExD := exitD (srcT p h b) (bfin p.blocks (hsrc h b).toNat)
def exR : ExD := exitD (tgtT q h b) (bfin q.blocks b)

/-- What the code tells of a block. -/
def codeD : Int :=
  if bigT p.regs 0 (plainNames p.regs 0) (srcOps p h b) = true ∨ bigT q.regs q.slots (namesOf (hpairs h b) (q.regs + q.slots).toNat) (bops q.blocks b) = true then 5
  else if marksT p.regs 0 p.data (plainNames p.regs 0) (srcOps p h b) (srcOps p h b).length ≠ marksT q.regs q.slots q.data (namesOf (hpairs h b) (q.regs + q.slots).toNat) (bops q.blocks b) (bops q.blocks b).length then 10
  else if srcT p h b p.regs ≠ tgtT q h b (q.regs + q.slots) then 11
  else if (exL p h b).kind ≠ (exR q h b).kind ∨ onText (exL p h b).on ≠ onText (exR q h b).on then 12
  else if ¬ (∀ i, i < (exL p h b).next.length → i < (exR q h b).next.length → hsrc h ((exR q h b).next.getD i 0).toNat = (exL p h b).next.getD i 0) then 13
  else if ¬ (∀ d ∈ (exR q h b).next, ∀ x ∈ hpairs h d.toNat, srcT p h b x.reg = tgtT q h b x.place) then 14
  else 0
end

theorem str_inj {x y : List UInt8} (h : str x = str y) : x = y := by
  have := congrArg ByteArray.toList h
  simpa [str] using this

/-- How an end counts: three shapes. -/
theorem exit_shape (was : Int → TD) (e : EndD) (hk : e.kind = 1 ∨ e.kind = 2 ∨ e.kind = 3) :
    (∃ x, exitD was e = ⟨1, none, [x]⟩ ∧ (effT e (was e.r)).kind = 1 ∧ (effT e (was e.r)).x = x) ∨
    (exitD was e = ⟨2, some (was e.r), [e.x, e.y]⟩ ∧ effT e (was e.r) = e ∧ e.kind = 2) ∨
    (exitD was e = ⟨3, some (was e.r), []⟩ ∧ effT e (was e.r) = e ∧ e.kind = 3) := by
  rcases hk with hk | hk | hk
  · refine .inl ⟨e.x, ?_, ?_, ?_⟩
    · unfold exitD; rw [if_neg (by omega), if_pos hk]
    · unfold effT; rw [if_neg (by omega)]; exact hk
    · unfold effT; rw [if_neg (by omega)]
  · cases hn : (was e.r).isNum with
    | none =>
      refine .inr (.inl ⟨?_, ?_, hk⟩)
      · unfold exitD; rw [if_neg (by omega), if_neg (by omega), hn]
      · unfold effT; rw [if_pos hk, hn]
    | some n =>
      by_cases h0 : n = 0
      · refine .inl ⟨e.y, ?_, ?_, ?_⟩
        · unfold exitD; rw [if_neg (by omega), if_neg (by omega), hn]; simp [h0]
        · unfold effT; rw [if_pos hk, hn]
        · unfold effT; rw [if_pos hk, hn]; simp [h0]
      · refine .inl ⟨e.x, ?_, ?_, ?_⟩
        · unfold exitD; rw [if_neg (by omega), if_neg (by omega), hn]; simp [h0]
        · unfold effT; rw [if_pos hk, hn]
        · unfold effT; rw [if_pos hk, hn]; simp [h0]
  · refine .inr (.inr ⟨?_, ?_, hk⟩)
    · unfold exitD; rw [if_pos hk]
    · unfold effT; rw [if_neg (by omega)]

theorem code_wrong (p q : ProgD) (h : List PingD) (b : Nat)
    (hm : marksT p.regs 0 p.data (plainNames p.regs 0) (srcOps p h b) (srcOps p h b).length = marksT q.regs q.slots q.data (namesOf (hpairs h b) (q.regs + q.slots).toNat) (bops q.blocks b) (bops q.blocks b).length ↔ marksD p.regs 0 p.data (plainNames p.regs 0) (srcOps p h b) (srcOps p h b).length = marksD q.regs q.slots q.data (namesOf (hpairs h b) (q.regs + q.slots).toNat) (bops q.blocks b) (bops q.blocks b).length)
    (hkl : (bfin p.blocks (hsrc h b).toNat).kind = 1 ∨ (bfin p.blocks (hsrc h b).toNat).kind = 2 ∨ (bfin p.blocks (hsrc h b).toNat).kind = 3) (hkr : (bfin q.blocks b).kind = 1 ∨ (bfin q.blocks b).kind = 2 ∨ (bfin q.blocks b).kind = 3)
    (hfl : (srcT p h b (bfin p.blocks (hsrc h b).toNat).r).fine) (hfr : (tgtT q h b (bfin q.blocks b).r).fine) : codeD p q h b = wrongD p q h b := by
  unfold codeD wrongD
  by_cases c1 : bigT p.regs 0 (plainNames p.regs 0) (srcOps p h b) = true ∨ bigT q.regs q.slots (namesOf (hpairs h b) (q.regs + q.slots).toNat) (bops q.blocks b) = true
  · rw [if_pos c1, if_pos c1]
  rw [if_neg c1, if_neg c1]
  by_cases c2 : ¬ marksD p.regs 0 p.data (plainNames p.regs 0) (srcOps p h b) (srcOps p h b).length = marksD q.regs q.slots q.data (namesOf (hpairs h b) (q.regs + q.slots).toNat) (bops q.blocks b) (bops q.blocks b).length
  · rw [if_pos (fun e => c2 (hm.1 e)), if_pos c2]
  have c2 := Classical.not_not.1 c2
  have k1 : ¬ (marksT p.regs 0 p.data (plainNames p.regs 0) (srcOps p h b) (srcOps p h b).length ≠ marksT q.regs q.slots q.data (namesOf (hpairs h b) (q.regs + q.slots).toNat) (bops q.blocks b) (bops q.blocks b).length) := fun e => e (hm.2 c2)
  have k2 : ¬ (marksD p.regs 0 p.data (plainNames p.regs 0) (srcOps p h b) (srcOps p h b).length ≠ marksD q.regs q.slots q.data (namesOf (hpairs h b) (q.regs + q.slots).toNat) (bops q.blocks b) (bops q.blocks b).length) := fun e => e c2
  rw [if_neg k1, if_neg k2]
  by_cases c3 : ¬ srcT p h b p.regs = tgtT q h b (q.regs + q.slots)
  · rw [if_pos c3, if_pos c3]
  have c3 := Classical.not_not.1 c3
  have k3 : ¬ (srcT p h b p.regs ≠ tgtT q h b (q.regs + q.slots)) := fun e => e c3
  rw [if_neg k3, if_neg k3]
  clear c1 c2 c3 hm k1 k2 k3
  unfold pairsOkD
  unfold srcEnd tgtEnd
  rcases exit_shape (srcT p h b) (bfin p.blocks (hsrc h b).toNat) hkl with ⟨x, e1, e2, e3⟩ | ⟨e1, e2, e3⟩ | ⟨e1, e2, e3⟩ <;>
  rcases exit_shape (tgtT q h b) (bfin q.blocks b) hkr with ⟨x', f1, f2, f3⟩ | ⟨f1, f2, f3⟩ | ⟨f1, f2, f3⟩
  · have g1 : exL p h b = ⟨1, none, [x]⟩ := e1
    have g2 : exR q h b = ⟨1, none, [x']⟩ := f1
    rw [g1, g2, e2, e3, f2, f3]
    simp only [onText, ne_eq, not_true_eq_false, or_self, if_false]
    by_cases d1 : hsrc h x'.toNat = x
    · by_cases d2 : ∀ y ∈ hpairs h x'.toNat, srcT p h b y.reg = tgtT q h b y.place
      · simp [d1, d2]
      · simp [d1, d2]
    · simp [d1]
  · have g1 : exL p h b = ⟨1, none, [x]⟩ := e1
    have g2 : exR q h b = _ := f1
    rw [g1, g2, e2, f2, f3]; simp
  · have g1 : exL p h b = ⟨1, none, [x]⟩ := e1
    have g2 : exR q h b = _ := f1
    rw [g1, g2, e2, f2, f3]; simp
  · have g1 : exL p h b = _ := e1
    have g2 : exR q h b = _ := f1
    rw [g1, g2, e2, e3, f2]; simp
  · have g1 : exL p h b = _ := e1
    have g2 : exR q h b = _ := f1
    rw [g1, g2, e2, e3, f2, f3]
    simp only [onText]
    by_cases d0 : srcT p h b (bfin p.blocks (hsrc h b).toNat).r = tgtT q h b (bfin q.blocks b).r
    · rw [d0]
      by_cases d1 : hsrc h (bfin q.blocks b).x.toNat = (bfin p.blocks (hsrc h b).toNat).x
      · by_cases d2 : hsrc h (bfin q.blocks b).y.toNat = (bfin p.blocks (hsrc h b).toNat).y
        · have hT : (∀ i, i < ([(bfin p.blocks (hsrc h b).toNat).x, (bfin p.blocks (hsrc h b).toNat).y] : List Int).length → i < ([(bfin q.blocks b).x, (bfin q.blocks b).y] : List Int).length → hsrc h (([(bfin q.blocks b).x, (bfin q.blocks b).y] : List Int).getD i 0).toNat = ([(bfin p.blocks (hsrc h b).toNat).x, (bfin p.blocks (hsrc h b).toNat).y] : List Int).getD i 0) := by
            intro i hi _
            have : i = 0 ∨ i = 1 := by simp at hi; omega
            rcases this with rfl | rfl
            · simpa using d1
            · simpa using d2
          rw [if_neg (by simp), if_neg (fun n => n hT)]
          simp only [ne_eq, not_true_eq_false, and_false, if_false, d1, d2, true_and, true_or]
          by_cases d3 : ∀ y ∈ hpairs h (bfin q.blocks b).x.toNat, srcT p h b y.reg = tgtT q h b y.place
          · by_cases d4 : ∀ y ∈ hpairs h (bfin q.blocks b).y.toNat, srcT p h b y.reg = tgtT q h b y.place
            · have hK : ∀ d ∈ ([(bfin q.blocks b).x, (bfin q.blocks b).y] : List Int), ∀ x ∈ hpairs h d.toNat, srcT p h b x.reg = tgtT q h b x.place := by
                intro d hd
                simp at hd
                rcases hd with rfl | rfl
                · exact d3
                · exact d4
              rw [if_neg (fun n => n hK), if_neg (by omega), if_neg (fun n => n d3), if_neg (fun n => n d4)]
            · rw [if_pos (fun hK => d4 (hK _ (by simp))), if_neg (by omega), if_neg (fun n => n d3), if_pos d4]
          · rw [if_pos (fun hK => d3 (hK _ (by simp))), if_neg (by omega), if_pos d3]
        · rw [if_neg (by simp), if_pos (fun hT => d2 (by simpa using hT 1 (by simp) (by simp)))]
          simp [d1, d2]
      · rw [if_neg (by simp), if_pos (fun hT => d1 (by simpa using hT 0 (by simp) (by simp)))]
        simp [d1]
    · have hne : str (showT (srcT p h b (bfin p.blocks (hsrc h b).toNat).r)) ≠ str (showT (tgtT q h b (bfin q.blocks b).r)) := fun e => d0 (show_inj hfl.ok hfr.ok (str_inj e))
      rw [if_pos (.inr hne)]
      simp [d0]
  · have g1 : exL p h b = _ := e1
    have g2 : exR q h b = _ := f1
    rw [g1, g2, e2, e3, f2, f3]; simp
  · have g1 : exL p h b = _ := e1
    have g2 : exR q h b = _ := f1
    rw [g1, g2, e2, e3, f2]; simp
  · have g1 : exL p h b = _ := e1
    have g2 : exR q h b = _ := f1
    rw [g1, g2, e2, e3, f2, f3]; simp
  · have g1 : exL p h b = _ := e1
    have g2 : exR q h b = _ := f1
    rw [g1, g2, e2, e3, f2, f3]
    simp only [onText]
    by_cases d0 : srcT p h b (bfin p.blocks (hsrc h b).toNat).r = tgtT q h b (bfin q.blocks b).r
    · rw [d0]; simp
    · have hne : str (showT (srcT p h b (bfin p.blocks (hsrc h b).toNat).r)) ≠ str (showT (tgtT q h b (bfin q.blocks b).r)) := fun e => d0 (show_inj hfl.ok hfr.ok (str_inj e))
      rw [if_pos (.inr hne)]
      simp [d0]

end Go.Proofs.YtblhmeidbjigaaaGreatDoor
