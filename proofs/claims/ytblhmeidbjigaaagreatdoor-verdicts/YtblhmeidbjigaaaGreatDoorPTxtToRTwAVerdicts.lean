/- Texts of programs: what is read is what was written. -/
import Derived.Test.YtblhmeidbjigaaaGreatDoorRows
import Derived.WalkKit
import Derived.WalkSpells
import Derived.WalkLawsBesides
import Derived.Laws.BytesArg
import Derived.Deep.QuietTactic
import Derived.BigQuiet
import Derived.Deep.RegionHeld3
import Derived.Maps.AppendAt
import Derived.StillTailTactics
import Derived.Lib.ItoaNum
import Derived.Lib.ItoaLen
import Derived.OpenShut
import Derived.Shelf.Strconv.Itoa3
import Derived.Shelf.Lay
import Derived.Ground.NamesProg
import Derived.Lib.SmallJoins
import Derived.Lib.Hide
import Derived.Test.YtblhmeidbjigaaaGreatDoorPCodKToPRefFVerdicts

set_option linter.unusedSimpArgs false
set_option linter.unusedVariables false
namespace Go.Proofs.YtblhmeidbjigaaaGreatDoor
open Go.RowKit

def oct4 (a b c d : Int) : Prop := (0 ≤ a ∧ a < 256) ∧ (0 ≤ b ∧ b < 256) ∧ (0 ≤ c ∧ c < 256) ∧ (0 ≤ d ∧ d < 256)

theorem opGood_oct {regs slots : Int} {o : OpD} (h : opGood regs slots o = true) (hr : regs ≤ 8) (hs : slots ≤ 8) : oct4 o.kind o.a o.b o.c := by
  unfold oct4
  simp only [opGood, below] at h
  repeat' split at h
  all_goals first | (simp at h; done) | (simp at h; omega)

theorem endGood_oct {regs n : Int} {e : EndD} (h : endGood regs n e = true) (hr : regs ≤ 8) (hn : n ≤ 6) : oct4 e.kind e.r e.x e.y := by
  unfold oct4
  simp only [endGood, below] at h
  repeat' split at h
  all_goals first | (simp at h; done) | (simp at h; omega)

theorem opsText_get (l : List OpD) (i : Nat) (hi : i < l.length) : (opsText l)[i * 4]? = some (byt (okind l i)) ∧ (opsText l)[i * 4 + 1]? = some (byt (oa l i)) ∧ (opsText l)[i * 4 + 2]? = some (byt (ob l i)) ∧ (opsText l)[i * 4 + 3]? = some (byt (oc l i)) := by
  induction l generalizing i with
  | nil => simp at hi
  | cons p r ih =>
    cases i with
    | zero => exact ⟨rfl, rfl, rfl, rfl⟩
    | succ i =>
      have h := ih i (by simpa using hi)
      have e1 : (i + 1) * 4 = i * 4 + 1 + 1 + 1 + 1 := by omega
      rw [e1]
      exact h

def opsOk (l : List OpD) : Prop := ∀ i, i < l.length → oct4 (okind l i) (oa l i) (ob l i) (oc l i)

theorem byte_mid {d : Int} {l a b c : List UInt8} {o i : Nat} {x : Int} {q : Int} (hl : l = a ++ b ++ c) (ho : a.length = o) (h : b[i]? = some (byt x)) (h0 : 0 ≤ x) (h1 : x < 256) (hq : q = ((o + i : Nat) : Int)) : byteOr d (str l) q = x := by
  rw [hq, byteOr_str (get_mid hl ho h), byt_toNat h0 h1]

theorem opsAt_text {d : Int} {l a c : List UInt8} {ps : List OpD} {o : Nat} (hl : l = a ++ opsText ps ++ c) (ho : a.length = o) (hok : opsOk ps) (k : Nat) (hk : k ≤ ps.length) : opsAt d (str l) o k = ps.take k := by
  induction k with
  | zero => rfl
  | succ k ih =>
    have hk' : k < ps.length := by omega
    obtain ⟨g1, g2, g3, g4⟩ := opsText_get ps k hk'
    obtain ⟨o1, o2, o3, o4⟩ := hok k hk'
    have e1 : byteOr d (str l) ((o : Int) + 4 * k) = okind ps k := byte_mid hl ho g1 o1.1 o1.2 (by omega)
    have e2 : byteOr d (str l) ((o : Int) + 4 * k + 1) = oa ps k := byte_mid hl ho g2 o2.1 o2.2 (by omega)
    have e3 : byteOr d (str l) ((o : Int) + 4 * k + 2) = ob ps k := byte_mid hl ho g3 o3.1 o3.2 (by omega)
    have e4 : byteOr d (str l) ((o : Int) + 4 * k + 3) = oc ps k := byte_mid hl ho g4 o4.1 o4.2 (by omega)
    rw [opsAt, ih (by omega), e1, e2, e3, e4, take_getD ps oz k hk']
    rfl

theorem progText_split (p : ProgD) {k : Nat} (hk : k < p.blocks.length) :
    progText p = (headText p ++ (p.blocks.take k).flatMap blockText) ++ blockText (p.blocks.getD k bz) ++ (p.blocks.drop (k + 1)).flatMap blockText := by
  unfold progText
  have e : p.blocks = p.blocks.take k ++ (p.blocks.getD k bz :: p.blocks.drop (k + 1)) := by rw [← drop_getD p.blocks bz k hk, List.take_append_drop]
  conv => lhs; arg 2; rw [e]
  simp [List.flatMap_append, List.flatMap_cons]

/-- Where the k-th block begins in the text of p. -/
def poff (p : ProgD) (k : Nat) : Nat := 7 + ((p.blocks.take k).flatMap blockText).length

theorem poff_succ {p : ProgD} {k : Nat} (hk : k < p.blocks.length) : poff p (k + 1) = poff p k + 1 + 4 * (bops p.blocks k).length + 4 := by
  unfold poff
  rw [take_getD p.blocks bz k hk, List.flatMap_append]
  simp [blockText_length, bops]
  omega

theorem headText_length (p : ProgD) : (headText p).length = 7 := rfl

theorem poff_len (p : ProgD) : (progText p).length = poff p p.blocks.length := by
  simp [poff, progText, headText_length]

theorem poff_mono {p : ProgD} {k : Nat} (hk : k < p.blocks.length) : poff p (k + 1) ≤ (progText p).length := by
  have := progText_split p hk
  rw [this]
  rw [poff_succ hk]
  simp [blockText_length, poff, bops, headText_length]
  omega

theorem progGood_nums {p : ProgD} (hg : progGood p = true) : (1 ≤ p.regs ∧ p.regs ≤ 8) ∧ (0 ≤ p.args ∧ p.args ≤ p.regs) ∧ (0 ≤ p.data ∧ p.data ≤ 8) ∧ (0 ≤ p.slots ∧ p.slots ≤ 8) := by
  simp [progGood] at hg; omega

theorem progGood_oct {p : ProgD} (hg : progGood p = true) {k : Nat} (hk : k < p.blocks.length) : opsOk (bops p.blocks k) ∧ oct4 (bek p.blocks k) (ber p.blocks k) (bex p.blocks k) (bey p.blocks k) := by
  have hb := progGood_block hg (p.blocks.getD k bz) (getD_mem' hk)
  have hn := progGood_nums hg
  have hl := progGood_len hg
  simp only [blockGood, Bool.and_eq_true] at hb
  refine ⟨?_, endGood_oct hb.2 (by omega) (by omega)⟩
  intro i hi
  have := hb.1.2
  simp only [opsGood, List.all_eq_true] at this
  exact opGood_oct (this _ (getD_mem' (d := oz) hi)) (by omega) (by omega)

/-- What is read at the k-th block of a good program's text. -/
theorem read_pblock {d : Int} {p : ProgD} (hg : progGood p = true) {k : Nat} (hk : k < p.blocks.length) :
    byteOr d (str (progText p)) (poff p k) = (bops p.blocks k).length ∧ blkAt d (str (progText p)) (poff p k) (bops p.blocks k).length = p.blocks.getD k bz := by
  have hs := progText_split p hk
  obtain ⟨ho1, ho2⟩ := progGood_oct hg hk
  have hlen := progGood_ops hg hk
  have ho : (headText p ++ (p.blocks.take k).flatMap blockText).length = poff p k := by simp [poff, headText_length]
  have e0 : byteOr d (str (progText p)) (poff p k) = (bops p.blocks k).length := byte_mid hs ho (i := 0) rfl (by omega) (by omega) (by omega)
  have hs1 : progText p = (headText p ++ (p.blocks.take k).flatMap blockText ++ [byt (bops p.blocks k).length]) ++ opsText (bops p.blocks k) ++ (endText (bfin p.blocks k) ++ (p.blocks.drop (k + 1)).flatMap blockText) := by
    rw [hs]; simp [blockText, bops, bfin]
  have hs2 : progText p = (headText p ++ (p.blocks.take k).flatMap blockText ++ [byt (bops p.blocks k).length] ++ opsText (bops p.blocks k)) ++ endText (bfin p.blocks k) ++ (p.blocks.drop (k + 1)).flatMap blockText := by
    rw [hs]; simp [blockText, bops, bfin]
  have l1 : (headText p ++ (p.blocks.take k).flatMap blockText ++ [byt (bops p.blocks k).length]).length = poff p k + 1 := by rw [List.length_append, ho]; rfl
  have l2 : (headText p ++ (p.blocks.take k).flatMap blockText ++ [byt (bops p.blocks k).length] ++ opsText (bops p.blocks k)).length = poff p k + 1 + 4 * (bops p.blocks k).length := by rw [List.length_append, l1, opsText_length]
  have e1 := opsAt_text (d := d) hs1 l1 ho1 _ (Nat.le_refl _)
  rw [List.take_length] at e1
  obtain ⟨q1, q2, q3, q4⟩ := ho2
  have f1 : byteOr d (str (progText p)) ((poff p k : Int) + 1 + 4 * (bops p.blocks k).length) = bek p.blocks k := byte_mid hs2 l2 (i := 0) rfl q1.1 q1.2 (by omega)
  have f2 : byteOr d (str (progText p)) ((poff p k : Int) + 1 + 4 * (bops p.blocks k).length + 1) = ber p.blocks k := byte_mid hs2 l2 (i := 1) rfl q2.1 q2.2 (by omega)
  have f3 : byteOr d (str (progText p)) ((poff p k : Int) + 1 + 4 * (bops p.blocks k).length + 2) = bex p.blocks k := byte_mid hs2 l2 (i := 2) rfl q3.1 q3.2 (by omega)
  have f4 : byteOr d (str (progText p)) ((poff p k : Int) + 1 + 4 * (bops p.blocks k).length + 3) = bey p.blocks k := byte_mid hs2 l2 (i := 3) rfl q4.1 q4.2 (by omega)
  refine ⟨e0, ?_⟩
  unfold blkAt finAt
  rw [f1, f2, f3, f4, show (poff p k : Int) + 1 = ((poff p k + 1 : Nat) : Int) by omega, e1]
  rfl

theorem read_phead {d : Int} {p : ProgD} (hg : progGood p = true) : byteOr d (str (progText p)) 0 = 84 ∧ byteOr d (str (progText p)) 1 = 87 ∧ byteOr d (str (progText p)) 2 = p.args ∧ byteOr d (str (progText p)) 3 = p.regs ∧ byteOr d (str (progText p)) 4 = p.data ∧ byteOr d (str (progText p)) 5 = p.slots ∧ byteOr d (str (progText p)) 6 = p.blocks.length := by
  have hl := progGood_len hg
  have hn := progGood_nums hg
  have hs : progText p = [] ++ headText p ++ p.blocks.flatMap blockText := rfl
  refine ⟨byteOr_str (i := 0) (b := 84) rfl, byteOr_str (i := 1) (b := 87) rfl, ?_, ?_, ?_, ?_, ?_⟩
  · exact byte_mid hs (o := 0) rfl (i := 2) rfl (by omega) (by omega) (by omega)
  · exact byte_mid hs (o := 0) rfl (i := 3) rfl (by omega) (by omega) (by omega)
  · exact byte_mid hs (o := 0) rfl (i := 4) rfl (by omega) (by omega) (by omega)
  · exact byte_mid hs (o := 0) rfl (i := 5) rfl (by omega) (by omega) (by omega)
  · exact byte_mid hs (o := 0) rfl (i := 6) rfl (by omega) (by omega) (by omega)

theorem pcod_reads {p : ProgD} (hg : progGood p = true) (k : Nat) (hk : k ≤ p.blocks.length) : patOf (str (progText p)) k = poff p k ∧ blocksOf (str (progText p)) k = p.blocks.take k := by
  induction k with
  | zero => exact ⟨rfl, rfl⟩
  | succ k ih =>
    obtain ⟨e1, e2⟩ := ih (by omega)
    obtain ⟨r1, r2⟩ := read_pblock (d := -1) hg (show k < p.blocks.length by omega)
    constructor
    · rw [patOf, e1, r1, poff_succ (by omega), Int.toNat_natCast]; omega
    · rw [blocksOf, e2, e1, r1, Int.toNat_natCast, r2, take_getD p.blocks bz k (by omega)]

theorem pref_reads {p : ProgD} (hg : progGood p = true) (k : Nat) (hk : k ≤ p.blocks.length) : prAt (str (progText p)) k = poff p k ∧ rBlocks (str (progText p)) k = p.blocks.take k := by
  induction k with
  | zero => exact ⟨rfl, rfl⟩
  | succ k ih =>
    obtain ⟨e1, e2⟩ := ih (by omega)
    obtain ⟨r1, r2⟩ := read_pblock (d := 0) hg (show k < p.blocks.length by omega)
    have hm := poff_mono (show k < p.blocks.length by omega)
    have hsu := poff_succ (show k < p.blocks.length by omega)
    have hj : jst4 (str (progText p)).size ((poff p k : Int) + 1) (bops p.blocks k).length = (bops p.blocks k).length := by
      unfold jst4
      rw [str_size]
      omega
    constructor
    · rw [prAt, e1, r1, Int.toNat_natCast, hj, hsu]; omega
    · rw [rBlocks, e2, e1, r1, Int.toNat_natCast, hj, r2, take_getD p.blocks bz k (by omega)]

theorem progD_eta (p : ProgD) : (⟨p.args, p.regs, p.data, p.slots, p.blocks⟩ : ProgD) = p := rfl

theorem pref_stops {p : ProgD} (hg : progGood p = true) {i : Nat} (hi : PRStop (str (progText p)) i) : progR (str (progText p)) i = p := by
  obtain ⟨_, _, h2, h3, h4, h5, h6⟩ := read_phead (d := 0) hg
  have : i = p.blocks.length := by
    rcases Nat.lt_trichotomy i p.blocks.length with hlt | heq | hgt
    · exfalso
      apply hi.stop
      rw [h6, (pref_reads hg i (by omega)).1, str_size]
      have := poff_mono hlt
      have := poff_succ hlt
      omega
    · exact heq
    · have := (hi.done p.blocks.length hgt).1
      rw [h6] at this
      omega
  subst this
  unfold progR
  rw [(pref_reads hg _ (Nat.le_refl _)).2, List.take_length, h2, h3, h4, h5]

/-! ### Back: what was read, written again -/

theorem seg_one {s : ByteArray} {i : Nat} (h : i < s.size) : seg s i 1 = [byt (byteOr (-1) s i)] := by
  have hl : s.data.toList.length = s.size := Array.length_toList
  rw [byteOr_in h, byt_of]
  unfold seg
  rw [List.drop_eq_getElem_cons (by omega)]
  rfl

theorem seg_four {s : ByteArray} {i : Nat} (h : i + 3 < s.size) : seg s i 4 = [byt (byteOr (-1) s i), byt (byteOr (-1) s ((i : Int) + 1)), byt (byteOr (-1) s ((i : Int) + 2)), byt (byteOr (-1) s ((i : Int) + 3))] := by
  rw [show (4 : Nat) = 2 + 2 from rfl, seg_add, seg_two (by omega), seg_two (by omega)]
  rw [show ((i + 2 : Nat) : Int) = (i : Int) + 2 by omega, show (i : Int) + 2 + 1 = (i : Int) + 3 by omega]
  rfl

theorem ops_seg {s : ByteArray} {o : Nat} (k : Nat) (h : o + 4 * k ≤ s.size) : opsText (opsAt (-1) s o k) = seg s o (4 * k) := by
  induction k with
  | zero => simp [opsAt, opsText, seg]
  | succ k ih =>
    rw [show 4 * (k + 1) = 4 * k + 4 by omega, seg_add, ← ih (by omega), seg_four (by omega)]
    simp only [opsAt, opsText, List.flatMap_append, List.flatMap_cons, List.flatMap_nil, List.append_nil]
    rw [show ((o + 4 * k : Nat) : Int) = (o : Int) + 4 * k by omega]
    rfl

theorem block_seg {s : ByteArray} {a m : Nat} (hm : byteOr (-1) s a = m) (h : a + 1 + 4 * m + 4 ≤ s.size) : blockText (blkAt (-1) s a m) = seg s a (1 + 4 * m + 4) := by
  rw [seg_add, seg_add, seg_one (by omega), hm, ← ops_seg m (by omega), seg_four (by omega)]
  simp only [blockText, blkAt, opsAt_length, endText, finAt]
  rw [show ((a + (1 + 4 * m) : Nat) : Int) = (a : Int) + 1 + 4 * m by omega, show ((a + 1 : Nat) : Int) = (a : Int) + 1 by omega]

theorem blocksOf_length (s : ByteArray) (k : Nat) : (blocksOf s k).length = k := by
  induction k with
  | zero => rfl
  | succ k ih => simp [blocksOf, ih]

theorem blocks_seg {s : ByteArray} (k : Nat) (h : patOf s k ≤ s.size) : (blocksOf s k).flatMap blockText = seg s 7 (patOf s k - 7).toNat := by
  induction k with
  | zero => simp [blocksOf, patOf, seg]
  | succ k ih =>
    have hb := patOf_bd s k
    obtain ⟨a, ha⟩ := Int.eq_ofNat_of_zero_le (show 0 ≤ patOf s k by omega)
    have hstep : patOf s (k + 1) = patOf s k + (1 + 4 * (byteOr (-1) s (patOf s k)).toNat + 4) := rfl
    generalize hm' : (byteOr (-1) s (patOf s k)).toNat = m at hstep
    have hcnt : byteOr (-1) s a = m := by
      rw [ha, byteOr_in (by omega)] at hm'
      rw [byteOr_in (by omega)]
      omega
    have e3 : (patOf s (k + 1) - 7).toNat = (patOf s k - 7).toNat + (1 + 4 * m + 4) := by omega
    rw [blocksOf, List.flatMap_append, ih (by omega), e3, seg_add]
    have ea : 7 + (patOf s k - 7).toNat = a := by omega
    rw [ea, hm', ha]
    congr 1
    simp only [List.flatMap_cons, List.flatMap_nil, List.append_nil]
    exact block_seg hcnt (by omega)

theorem pcod_text {s : ByteArray} (h : readsProg s = true) : str (progText (progOf s)) = s := by
  simp only [readsProg, Bool.and_eq_true, decide_eq_true_eq] at h
  obtain ⟨⟨⟨h0, h1⟩, h2⟩, h3⟩ := h
  have hb := patOf_bd s (byteOr (-1) s 6).toNat
  have hl : s.data.toList.length = s.size := Array.length_toList
  have hc : ((byteOr (-1) s 6).toNat : Int) = byteOr (-1) s 6 := by
    have e : byteOr (-1) s ((6 : Nat) : Int) = _ := byteOr_in (d := -1) (show 6 < s.size by omega)
    have e' : byteOr (-1) s 6 = _ := e
    rw [e']
    omega
  have hs := blocks_seg (s := s) (byteOr (-1) s 6).toNat (by omega)
  have f0 : seg s 0 s.size = s.data.toList := by unfold seg; rw [List.drop_zero, ← hl, List.take_length]
  have f1 : s.size = 2 + 4 + 1 + (patOf s (byteOr (-1) s 6).toNat - 7).toNat := by omega
  have e2 := seg_two (s := s) (i := 0) (by omega)
  have e4 := seg_four (s := s) (i := 2) (by omega)
  have e1 := seg_one (s := s) (i := 6) (by omega)
  have z0 : byteOr (-1) s ((0 : Nat) : Int) = 84 := h0
  have z1 : byteOr (-1) s (((0 : Nat) : Int) + 1) = 87 := h1
  rw [z0, z1] at e2
  rw [f1, seg_add, seg_add, seg_add] at f0
  have e2' : seg s 0 2 = [84, 87] := e2
  have e4' : seg s (0 + 2) 4 = [byt (byteOr (-1) s 2), byt (byteOr (-1) s 3), byt (byteOr (-1) s 4), byt (byteOr (-1) s 5)] := e4
  have e1' : seg s (0 + (2 + 4)) 1 = [byt (byteOr (-1) s 6)] := e1
  have hs' : seg s (0 + (2 + 4 + 1)) (patOf s (byteOr (-1) s 6).toNat - 7).toNat = (blocksOf s (byteOr (-1) s 6).toNat).flatMap blockText := hs.symm
  rw [e2', e4', e1', hs'] at f0
  have f2 : progText (progOf s) = s.data.toList := by
    rw [← f0]
    simp only [progText, headText, progOf, blocksOf_length, hc]
    rfl
  rw [f2, ← str_of]

/-! ### The two contracts, in the document's words -/

theorem cDecode_any (s : ByteArray) (w : World) (hs : s.size ≤ maxLen) :
    Calls Tryz.prog 65 #[.string s] w fun e w' => ((∃ p v bv, e = .returned (.tuple #[progV p v, .int .i64 0]) ∧ OwnBlocks w' w.heap.size v bv ∧ bdat bv = p.blocks ∧ progGood p = true ∧ str (progText p) = s) ∨
      ((∀ p, progGood p = true → str (progText p) ≠ s) ∧ e = .returned (.tuple #[.agg #[.int .i64 0, .int .i64 0, .int .i64 0, .int .i64 0, .slice none 0 0], .int .i64 1]))) ∧ Below w.heap.size w w' := by
  refine cDecode_cps s w hs _ ?_ ?_
  · intro v bv w' hr ho hd hb
    refine ⟨.inl ⟨progOf s, v, bv, rfl, ho, hd, ?_, pcod_text hr⟩, hb⟩
    simp only [readsProg, Bool.and_eq_true] at hr; exact hr.2
  · intro w' hr hb
    refine ⟨.inr ⟨?_, rfl⟩, hb⟩
    intro p hg he
    subst he
    obtain ⟨r0, r1, r2, r3, r4, r5, r6⟩ := read_phead (d := -1) hg
    have := pcod_reads hg p.blocks.length (Nat.le_refl _)
    simp only [readsProg, progOf, r0, r1, r2, r3, r4, r5, r6, Int.toNat_natCast, this.1, this.2, List.take_length, progD_eta, hg, str_size, poff_len] at hr
    simp at hr

theorem rDecode_any (s : ByteArray) (w : World) (hs : s.size ≤ maxLen) :
    Calls Tryz.prog 34 #[.string s] w fun e w' => ((∃ p v bv, e = .returned (.tuple #[progV p v, .bool true]) ∧ OwnBlocks w' w.heap.size v bv ∧ bdat bv = p.blocks ∧ progGood p = true ∧ str (progText p) = s) ∨
      ((∀ p, progGood p = true → str (progText p) ≠ s) ∧ e = .returned (.tuple #[.agg #[.int .i64 0, .int .i64 0, .int .i64 0, .int .i64 0, .slice none 0 0], .bool false]))) ∧ Below w.heap.size w w' := by
  refine rDecode_cps s w hs _ ?_ ?_
  · intro v bv w' i _ ho hd hg ht hb
    exact ⟨.inl ⟨progR s i, v, bv, rfl, ho, hd, hg, ht⟩, hb⟩
  · intro w' i hst hr hb
    refine ⟨.inr ⟨?_, rfl⟩, hb⟩
    intro p hg he
    subst he
    have := pref_stops hg hst
    rw [this] at hr
    exact hr hg rfl

/-- A text is the text of one program at most. -/
theorem prog_one {p q : ProgD} (hp : progGood p = true) (hq : progGood q = true) (e : str (progText p) = str (progText q)) : p = q := by
  obtain ⟨_, _, a2, a3, a4, a5, a6⟩ := read_phead (d := -1) hp
  obtain ⟨_, _, b2, b3, b4, b5, b6⟩ := read_phead (d := -1) hq
  have c := (pcod_reads hp p.blocks.length (Nat.le_refl _)).2
  have d := (pcod_reads hq q.blocks.length (Nat.le_refl _)).2
  rw [e] at a2 a3 a4 a5 a6 c
  have hl : p.blocks.length = q.blocks.length := by omega
  rw [hl, d, List.take_length, ← hl, List.take_length] at c
  rw [← progD_eta p, ← progD_eta q, ← c, ← a2, ← a3, ← a4, ← a5, b2, b3, b4, b5]

end Go.Proofs.YtblhmeidbjigaaaGreatDoor

/- The law on programs: reading. -/
set_option linter.unusedSimpArgs false
set_option linter.unusedVariables false
namespace Go.Proofs.YtblhmeidbjigaaaGreatDoor
open Go.RowKit

theorem Row.kept {S : Nat → Prop} {w w' : World} {g : Nat} {e : TypeId} {xs : List Value} (h : Row w g e xs) (hk : Keep S w w') (hn : ¬ S g) : Row w' g e xs := h.same (hk.block g h.lt hn)

end Go.Proofs.YtblhmeidbjigaaaGreatDoor

/- An end out of raw numbers. -/
set_option linter.unusedSimpArgs false
set_option linter.unusedVariables false
namespace Go.Proofs.YtblhmeidbjigaaaGreatDoor
open Go.RowKit

theorem Keep.trans {S : Nat → Prop} {w a b : World} (h : Keep S w a) (h2 : Keep S a b) : Keep S w b :=
  h.step h2.os h2.tape h2.output h2.size fun k hk hn => h2.block k (Nat.lt_of_lt_of_le hk h.size) hn

end Go.Proofs.YtblhmeidbjigaaaGreatDoor

/- The machine lets words out. -/
set_option linter.unusedSimpArgs false
set_option linter.unusedVariables false
namespace Go.Proofs.YtblhmeidbjigaaaGreatDoor
open Go.RowKit

theorem Row.grown {w w' : World} {M : Nat} {t : TypeId} {xs : List Value} {row : Option Nat} (h : Row w M t xs) (hg : w.grownBy w' row) (hne : row ≠ some M) : Row w' M t xs := h.same (hg.block M h.lt (fun e => hne e.symm))

theorem Keep.mono {S S' : Nat → Prop} {w w' : World} (h : Keep S w w') (hs : ∀ g, S g → S' g) : Keep S' w w' := ⟨h.os, h.tape, h.output, h.size, fun k hk hn => h.block k hk (fun e => hn (hs k e))⟩

end Go.Proofs.YtblhmeidbjigaaaGreatDoor

/- The machine's Load. -/
set_option linter.unusedSimpArgs false
set_option linter.unusedVariables false
namespace Go.Proofs.YtblhmeidbjigaaaGreatDoor
open Go.RowKit

/-- A region that reads, then one store (or what follows of itself). -/
theorem wp_tail {P : Program} {id : Nat} {Q : Exit → Act → World → Prop} {a : Act} {w : World} {l : List Oper} (n : Nat) (hm : P.follows .mixedOrders = true) (hB : Region.lexTailB .any l.toArray n = true)
    (h : wpStill P l.toArray w.drew (fun a' => wpList P l.toArray Q (l.drop n) a' w.drew) (l.take n) a) : (Code.region id l.toArray true).wp P Q a w :=
  wp_region_still_tail n hm hB h

end Go.Proofs.YtblhmeidbjigaaaGreatDoor

/- The machine does an operation; the operations of a block; where it goes on. -/
set_option linter.unusedSimpArgs false
set_option linter.unusedVariables false
namespace Go.Proofs.YtblhmeidbjigaaaGreatDoor
open Go.RowKit

theorem opGood_kind {regs slots : Int} {o : OpD} (h : opGood regs slots o = true) : 1 ≤ o.kind ∧ o.kind ≤ 15 := by
  unfold opGood at h
  repeat' split at h
  all_goals first | omega | simp at h

end Go.Proofs.YtblhmeidbjigaaaGreatDoor

/- The machine does the operations of a block; where it goes on. -/
set_option linter.unusedSimpArgs false
set_option linter.unusedVariables false
namespace Go.Proofs.YtblhmeidbjigaaaGreatDoor
open Go.RowKit

theorem opsGood_at {regs slots : Int} {l : List OpD} (h : opsGood regs slots l = true) {k : Nat} (hk : k < l.length) : opGood regs slots ⟨okind l k, oa l k, ob l k, oc l k⟩ = true := by
  have := List.all_eq_true.1 h (l.getD k oz) (getD_mem' hk)
  exact this

end Go.Proofs.YtblhmeidbjigaaaGreatDoor

/- Twins end alike: pure. -/
set_option linter.unusedSimpArgs false
set_option linter.unusedVariables false
noncomputable section
namespace Go.Proofs.YtblhmeidbjigaaaGreatDoor
open Go.RowKit Classical

/-- The end of a block; a Branch whose register's term is a number counts as a Jump. -/
def effT (e : EndD) (t : TD) : EndD := if e.kind = 2 then (match t.isNum with | some n => ⟨1, 0, if n ≠ 0 then e.x else e.y, 0⟩ | none => e) else e

section
variable (p q : ProgD) (h : List PingD) (b : Nat)
def srcOps : List OpD := bops p.blocks (hsrc h b).toNat
def srcT (i : Int) : TD := behindT p.regs 0 (plainNames p.regs 0) (srcOps p h b) (srcOps p h b).length i
def tgtT (i : Int) : TD := behindT q.regs q.slots (namesOf (hpairs h b) (q.regs + q.slots).toNat) (bops q.blocks b) (bops q.blocks b).length i
def srcEnd : EndD := effT (bfin p.blocks (hsrc h b).toNat) (srcT p h b (bfin p.blocks (hsrc h b).toNat).r)
def tgtEnd : EndD := effT (bfin q.blocks b) (tgtT q h b (bfin q.blocks b).r)

/-- An edge: where the source goes on with c and the target with d. -/
def edgeOk (c d : Int) : Prop := hsrc h d.toNat = c ∧ ∀ x ∈ hpairs h d.toNat, srcT p h b x.reg = tgtT q h b x.place

/-- P12 (4), of block b of the target. -/
structure BlockOk : Prop where
  src : 0 ≤ hsrc h b ∧ hsrc h b < p.blocks.length
  pairs : ∀ x ∈ hpairs h b, 0 ≤ x.reg ∧ x.reg < p.regs ∧ 0 ≤ x.place ∧ x.place < q.regs + q.slots
  marks : marksD p.regs 0 p.data (plainNames p.regs 0) (srcOps p h b) (srcOps p h b).length = marksD q.regs q.slots q.data (namesOf (hpairs h b) (q.regs + q.slots).toNat) (bops q.blocks b) (bops q.blocks b).length
  cells : srcT p h b p.regs = tgtT q h b (q.regs + q.slots)
  kind : (srcEnd p h b).kind = (tgtEnd q h b).kind
  term : ((srcEnd p h b).kind = 2 ∨ (srcEnd p h b).kind = 3) → srcT p h b (srcEnd p h b).r = tgtT q h b (tgtEnd q h b).r
  edgeX : (srcEnd p h b).kind ≠ 3 → edgeOk p q h b (srcEnd p h b).x (tgtEnd q h b).x
  edgeY : (srcEnd p h b).kind = 2 → edgeOk p q h b (srcEnd p h b).y (tgtEnd q h b).y
end

end Go.Proofs.YtblhmeidbjigaaaGreatDoor

/- P12 in the document's words: pure. -/
set_option linter.unusedSimpArgs false
set_option linter.unusedVariables false
noncomputable section
namespace Go.Proofs.YtblhmeidbjigaaaGreatDoor
open Go.RowKit Classical

/-- P12 (2): is the hint one for these programs? -/
def suitsD (p q : ProgD) (h : List PingD) : Prop :=
  h.length = q.blocks.length ∧ ∀ b, b < h.length → hsrc h b < p.blocks.length ∧ ∀ x ∈ hpairs h b, x.reg < p.regs ∧ x.place < q.regs + q.slots

/-- P12 (3). -/
def startsD (q : ProgD) (h : List PingD) : Prop :=
  hsrc h 0 = 0 ∧ ∀ x ∈ hpairs h 0, x.place < q.regs ∧ (x.reg = x.place ∨ (q.args ≤ x.reg ∧ q.args ≤ x.place))

section
variable (p q : ProgD) (h : List PingD) (b : Nat)
def pairsOkD (l : List PairD) : Prop := ∀ x ∈ l, srcT p h b x.reg = tgtT q h b x.place


/-- P12 (4): what is wrong at block b of the target; 0: nothing. -/
def wrongD : Int :=
  if bigT p.regs 0 (plainNames p.regs 0) (srcOps p h b) = true ∨ bigT q.regs q.slots (namesOf (hpairs h b) (q.regs + q.slots).toNat) (bops q.blocks b) = true then 5
  else if marksD p.regs 0 p.data (plainNames p.regs 0) (srcOps p h b) (srcOps p h b).length ≠ marksD q.regs q.slots q.data (namesOf (hpairs h b) (q.regs + q.slots).toNat) (bops q.blocks b) (bops q.blocks b).length then 10
  else if srcT p h b p.regs ≠ tgtT q h b (q.regs + q.slots) then 11
  else if (srcEnd p h b).kind ≠ (tgtEnd q h b).kind then 12
  else if ((srcEnd p h b).kind = 2 ∨ (srcEnd p h b).kind = 3) ∧ srcT p h b (srcEnd p h b).r ≠ tgtT q h b (tgtEnd q h b).r then 12
  else if (srcEnd p h b).kind = 3 then 0
  else if hsrc h (tgtEnd q h b).x.toNat ≠ (srcEnd p h b).x then 13
  else if (srcEnd p h b).kind = 2 ∧ hsrc h (tgtEnd q h b).y.toNat ≠ (srcEnd p h b).y then 13
  else if ¬ pairsOkD p q h b (hpairs h (tgtEnd q h b).x.toNat) then 14
  else if (srcEnd p h b).kind = 2 ∧ ¬ pairsOkD p q h b (hpairs h (tgtEnd q h b).y.toNat) then 14
  else 0
end

/-- P12: what Validate answers of texts that are read as p, q and h. -/
def JudgedD (p q : ProgD) (h : List PingD) (e n : Int) : Prop :=
  (e = 9 ∧ n = 0 ∧ ¬ startsD q h) ∨ (startsD q h ∧
    ((∃ b : Nat, b < q.blocks.length ∧ n = b ∧ e = wrongD p q h b ∧ e ≠ 0 ∧ ∀ c, c < b → wrongD p q h c = 0) ∨ (e = 0 ∧ n = 0 ∧ ∀ b, b < q.blocks.length → wrongD p q h b = 0)))

/-- P12: what Validate answers. -/
def ValAns (s t g : ByteArray) (e n : Int) : Prop :=
  (e = 6 ∧ n = 0 ∧ ∀ p, progGood p = true → str (progText p) = s → p.slots ≠ 0) ∨
  ∃ p, progGood p = true ∧ str (progText p) = s ∧ p.slots = 0 ∧
    ((e = 7 ∧ n = 0 ∧ ∀ q, progGood q = true → str (progText q) ≠ t) ∨
      ∃ q, progGood q = true ∧ str (progText q) = t ∧
        ((e = 8 ∧ n = 0 ∧ ¬ (p.args = q.args ∧ p.data = q.data)) ∨ ((p.args = q.args ∧ p.data = q.data) ∧
          ((e = 2 ∧ n = 0 ∧ ∀ h, goodHint h = true → str (hintText h) = g → ¬ suitsD p q h) ∨
            ∃ h, goodHint h = true ∧ str (hintText h) = g ∧ suitsD p q h ∧ JudgedD p q h e n))))

theorem JudgedD.one {p q : ProgD} {h : List PingD} {e n e' n' : Int} (a : JudgedD p q h e n) (b : JudgedD p q h e' n') : e = e' ∧ n = n' := by
  rcases a with ⟨rfl, rfl, a1⟩ | ⟨a0, a1⟩
  · rcases b with ⟨rfl, rfl, _⟩ | ⟨b0, _⟩
    · exact ⟨rfl, rfl⟩
    · exact absurd b0 a1
  · rcases b with ⟨_, _, b1⟩ | ⟨_, b1⟩
    · exact absurd a0 b1
    · rcases a1 with ⟨x, x1, rfl, rfl, x2, x3⟩ | ⟨rfl, rfl, x1⟩
      · rcases b1 with ⟨y, y1, rfl, rfl, y2, y3⟩ | ⟨_, _, y1⟩
        · have : x = y := by
            rcases Nat.lt_trichotomy x y with c | c | c
            · exact absurd (y3 x c) x2
            · exact c
            · exact absurd (x3 y c) y2
          subst this
          exact ⟨rfl, rfl⟩
        · exact absurd (y1 x x1) x2
      · rcases b1 with ⟨y, y1, rfl, rfl, y2, y3⟩ | ⟨rfl, rfl, y1⟩
        · exact absurd (x1 y y1) y2
        · exact ⟨rfl, rfl⟩

theorem ValAns.one {s t g : ByteArray} {e n e' n' : Int} (a : ValAns s t g e n) (b : ValAns s t g e' n') : e = e' ∧ n = n' := by
  rcases a with ⟨rfl, rfl, a1⟩ | ⟨p, pg, pt, p0, a1⟩
  · rcases b with ⟨rfl, rfl, _⟩ | ⟨p, pg, pt, p0, _⟩
    · exact ⟨rfl, rfl⟩
    · exact absurd p0 (a1 p pg pt)
  rcases b with ⟨_, _, b1⟩ | ⟨p', pg', pt', p0', b1⟩
  · exact absurd p0 (b1 p pg pt)
  obtain rfl : p = p' := prog_one pg pg' (pt.trans pt'.symm)
  rcases a1 with ⟨rfl, rfl, a1⟩ | ⟨q, qg, qt, a1⟩
  · rcases b1 with ⟨rfl, rfl, _⟩ | ⟨q, qg, qt, _⟩
    · exact ⟨rfl, rfl⟩
    · exact absurd qt (a1 q qg)
  rcases b1 with ⟨_, _, b1⟩ | ⟨q', qg', qt', b1⟩
  · exact absurd qt (b1 q qg)
  obtain rfl : q = q' := prog_one qg qg' (qt.trans qt'.symm)
  rcases a1 with ⟨rfl, rfl, a1⟩ | ⟨a0, a1⟩
  · rcases b1 with ⟨rfl, rfl, _⟩ | ⟨b0, _⟩
    · exact ⟨rfl, rfl⟩
    · exact absurd b0 a1
  rcases b1 with ⟨_, _, b1⟩ | ⟨_, b1⟩
  · exact absurd a0 b1
  rcases a1 with ⟨rfl, rfl, a1⟩ | ⟨h, hg, ht, hs, a1⟩
  · rcases b1 with ⟨rfl, rfl, _⟩ | ⟨h, hg, ht, hs, _⟩
    · exact ⟨rfl, rfl⟩
    · exact absurd hs (a1 h hg ht)
  rcases b1 with ⟨_, _, b1⟩ | ⟨h', hg', ht', hs', b1⟩
  · exact absurd hs (b1 h hg ht)
  obtain rfl : h = h' := hint_one hg hg' (ht.trans ht'.symm)
  exact a1.one b1

theorem goodPairs_all {l : List PairD} {last : Int} (h : goodPairs last l = true) : ∀ x ∈ l, 0 ≤ x.reg ∧ 0 ≤ x.place := by
  induction l generalizing last with
  | nil => intro x hx; cases hx
  | cons y l ih =>
    simp only [goodPairs, Bool.and_eq_true, below, decide_eq_true_eq] at h
    intro x hx
    rcases List.mem_cons.1 hx with rfl | hx
    · omega
    · exact ih h.2 x hx

theorem goodHint_at {h : List PingD} (g : goodHint h = true) {b : Nat} (hb : b < h.length) : 0 ≤ hsrc h b ∧ ∀ x ∈ hpairs h b, 0 ≤ x.reg ∧ 0 ≤ x.place := by
  simp only [goodHint, goodPings, Bool.and_eq_true, decide_eq_true_eq, List.all_eq_true] at g
  have hm : h.getD b hz ∈ h := by simp [List.getD, hb]
  have := g.2 _ hm
  simp only [goodPing, Bool.and_eq_true, below, decide_eq_true_eq] at this
  exact ⟨this.1.1.1, goodPairs_all this.2⟩

/-- Where nothing is wrong, P12 (4) holds. -/
theorem blockOk_of {p q : ProgD} {h : List PingD} (hg : goodHint h = true) (hs : suitsD p q h) {b : Nat} (hb : b < q.blocks.length) (hw : wrongD p q h b = 0) : BlockOk p q h b := by
  have hbl : b < h.length := by rw [hs.1]; exact hb
  obtain ⟨s1, s2⟩ := hs.2 b hbl
  obtain ⟨g1, g2⟩ := goodHint_at hg hbl
  unfold wrongD at hw
  split at hw; · omega
  split at hw; · omega
  rename_i hm
  split at hw; · omega
  rename_i hc
  split at hw; · omega
  rename_i hk
  split at hw; · omega
  rename_i ht
  have hm := Decidable.not_not.1 hm
  have hc := Decidable.not_not.1 hc
  have hk := Decidable.not_not.1 hk
  have ht : ((srcEnd p h b).kind = 2 ∨ (srcEnd p h b).kind = 3) → srcT p h b (srcEnd p h b).r = tgtT q h b (tgtEnd q h b).r := fun a => Decidable.not_not.1 fun c => ht ⟨a, c⟩
  have hp : ∀ x ∈ hpairs h b, 0 ≤ x.reg ∧ x.reg < p.regs ∧ 0 ≤ x.place ∧ x.place < q.regs + q.slots := fun x hx => ⟨(g2 x hx).1, (s2 x hx).1, (g2 x hx).2, (s2 x hx).2⟩
  split at hw
  · rename_i h3
    exact ⟨⟨g1, s1⟩, hp, hm, hc, hk, ht, fun c => absurd h3 c, fun c => by omega⟩
  split at hw; · omega
  rename_i x1
  split at hw; · omega
  rename_i x2
  split at hw; · omega
  rename_i x3
  split at hw; · omega
  rename_i x4
  have x1 := Decidable.not_not.1 x1
  have x3 := Decidable.not_not.1 x3
  exact ⟨⟨g1, s1⟩, hp, hm, hc, hk, ht, fun _ => ⟨x1, x3⟩, fun c => ⟨Decidable.not_not.1 fun d => x2 ⟨c, d⟩, Decidable.not_not.1 fun d => x4 ⟨c, d⟩⟩⟩

/-- What is taken for twins. -/
theorem ValAns.ok {s t g : ByteArray} {n : Int} (a : ValAns s t g 0 n) : ∃ p q h, progGood p = true ∧ str (progText p) = s ∧ progGood q = true ∧ str (progText q) = t ∧ goodHint h = true ∧ str (hintText h) = g ∧ p.slots = 0 ∧ p.args = q.args ∧ p.data = q.data ∧
    (∀ b, b < q.blocks.length → BlockOk p q h b) ∧ hsrc h 0 = 0 ∧ (∀ x ∈ hpairs h 0, x.place < q.regs ∧ (x.reg = x.place ∨ (p.args ≤ x.reg ∧ p.args ≤ x.place))) := by
  rcases a with ⟨c, _⟩ | ⟨p, pg, pt, p0, a⟩
  · omega
  rcases a with ⟨c, _⟩ | ⟨q, qg, qt, a⟩
  · omega
  rcases a with ⟨c, _⟩ | ⟨⟨e1, e2⟩, a⟩
  · omega
  rcases a with ⟨c, _⟩ | ⟨h, hg, ht, hs, a⟩
  · omega
  rcases a with ⟨c, _⟩ | ⟨st, a⟩
  · omega
  rcases a with ⟨b, _, _, c, d, _⟩ | ⟨_, _, a⟩
  · omega
  exact ⟨p, q, h, pg, pt, qg, qt, hg, ht, p0, e1, e2, fun b hb => blockOk_of hg hs hb (a b hb), st.1, by rw [e1]; exact st.2⟩

end Go.Proofs.YtblhmeidbjigaaaGreatDoor

/- Terms and marks of a list of operations, step by step; pure. -/
set_option linter.unusedSimpArgs false
set_option linter.unusedVariables false
noncomputable section
namespace Go.Proofs.YtblhmeidbjigaaaGreatDoor
open Go.RowKit Classical

/-- What an operation makes. -/
def givesT (regs slots : Int) (was : Int → TD) (o : OpD) : TD :=
  if o.kind = 1 then tnum (256 * o.b + o.c - 32768)
  else if o.kind = 2 ∨ o.kind = 14 then was o.b
  else if o.kind = 15 then was (regs + o.b)
  else if o.kind = 12 then readT (was (regs + slots)) (was o.b)
  else if o.kind = 13 then writtenT (was (regs + slots)) (was o.a) (was o.b)
  else madeT o.kind (was o.b) (was o.c)

/-- Behind an operation. -/
def stepT (regs slots : Int) (was : Int → TD) (o : OpD) : Int → TD := fun place => if writesT regs slots o ≠ place then was place else givesT regs slots was o

def foldT (regs slots : Int) : List OpD → (Int → TD) → (Int → TD)
  | [], was => was
  | o :: l, was => foldT regs slots l (stepT regs slots was o)

/-- The mark of an operation. -/
def opMark (was : Int → TD) (o : OpD) : Option MD :=
  if o.kind = 11 then some (.div (was o.b) (was o.c)) else if o.kind = 12 then some (.cell (was o.b)) else if o.kind = 13 then some (.cell (was o.a)) else none

theorem foldT_append (regs slots : Int) (l m : List OpD) (was : Int → TD) : foldT regs slots (l ++ m) was = foldT regs slots m (foldT regs slots l was) := by
  induction l generalizing was with
  | nil => rfl
  | cons o l ih => exact ih _

theorem behind_succ (regs slots : Int) (names : List Int) (ops : List OpD) (k : Nat) : behindT regs slots names ops (k + 1) = stepT regs slots (behindT regs slots names ops k) (ops.getD k oz) := by
  funext place
  simp only [behindT, stepT, givesT]

theorem take_succ' {ops : List OpD} {k : Nat} (h : k < ops.length) : ops.take (k + 1) = ops.take k ++ [ops.getD k oz] := by
  rw [List.take_add_one, List.getElem?_eq_getElem h]
  simp [List.getD, h]

theorem behind_fold (regs slots : Int) (names : List Int) (ops : List OpD) : ∀ k, k ≤ ops.length → behindT regs slots names ops k = foldT regs slots (ops.take k) (firstT names) := by
  intro k
  induction k with
  | zero => intro _; funext p; simp [behindT, foldT]
  | succ k ih =>
    intro hk
    rw [behind_succ, ih (by omega), take_succ' (by omega), foldT_append]
    rfl

end Go.Proofs.YtblhmeidbjigaaaGreatDoor

/- Big blocks, step by step; pure. -/
set_option linter.unusedSimpArgs false
set_option linter.unusedVariables false
noncomputable section
namespace Go.Proofs.YtblhmeidbjigaaaGreatDoor
open Go.RowKit Classical

def bigOp (regs slots : Int) (was : Int → TD) (o : OpD) : Bool := decide (3 ≤ o.kind ∧ o.kind ≤ 13 ∧ 4095 < (givesT regs slots was o).size)

def bigF (regs slots : Int) : List OpD → (Int → TD) → Bool
  | [], _ => false
  | o :: l, was => bigOp regs slots was o || bigF regs slots l (stepT regs slots was o)

theorem bigF_append (regs slots : Int) (l m : List OpD) (was : Int → TD) : bigF regs slots (l ++ m) was = (bigF regs slots l was || bigF regs slots m (foldT regs slots l was)) := by
  induction l generalizing was with
  | nil => simp [bigF, foldT]
  | cons o l ih => simp only [List.cons_append, bigF, foldT, ih, Bool.or_assoc]

theorem step_writes (regs slots : Int) (was : Int → TD) (o : OpD) : stepT regs slots was o (writesT regs slots o) = givesT regs slots was o := by
  unfold stepT; simp

theorem big_fold (regs slots : Int) (names : List Int) (ops : List OpD) : ∀ k, k ≤ ops.length →
    ((List.range k).any fun k => decide (3 ≤ okind ops k ∧ okind ops k ≤ 13 ∧ 4095 < (behindT regs slots names ops (k + 1) (writesT regs slots (ops.getD k oz))).size)) = bigF regs slots (ops.take k) (firstT names) := by
  intro k
  induction k with
  | zero => intro _; simp [bigF]
  | succ k ih =>
    intro hk
    rw [List.range_succ, List.any_append, ih (by omega), take_succ' (by omega), bigF_append, ← behind_fold _ _ _ _ _ (by omega)]
    simp only [List.any_cons, List.any_nil, Bool.or_false, bigF]
    rw [behind_succ, step_writes]
    rfl

theorem big_all (regs slots : Int) (names : List Int) (ops : List OpD) : bigT regs slots names ops = bigF regs slots ops (firstT names) := by
  have := big_fold regs slots names ops ops.length (Nat.le_refl _)
  rw [List.take_length] at this
  exact this

end Go.Proofs.YtblhmeidbjigaaaGreatDoor

/- The reference's twins: Named, suits, starts. -/
set_option linter.unusedSimpArgs false
set_option linter.unusedVariables false
namespace Go.Proofs.YtblhmeidbjigaaaGreatDoor
open Go.RowKit

/-- The name of a place by the first k pairs: the last that names it. -/
def nameTo (qs : List PairD) (p : Int) : Nat → Int
  | 0 => -1
  | k + 1 => if pplace qs k = p then preg qs k else nameTo qs p k

theorem nameTo_find {qs : List PairD} (hd : ∀ j k, j < k → k < qs.length → pplace qs j ≠ pplace qs k) (p : Int) : ∀ k, k ≤ qs.length → nameTo qs p k = match (qs.take k).find? (fun x => decide (x.place = p)) with | some x => x.reg | none => -1
  | 0, _ => by simp [nameTo]
  | k + 1, hk => by
    have ih := nameTo_find hd p k (by omega)
    rw [take_getD qs pz k (by omega), List.find?_append]
    unfold nameTo
    obtain ⟨x, hx⟩ : ∃ x, x = qs.getD k pz := ⟨_, rfl⟩
    have e1 : pplace qs k = x.place := by unfold pplace; rw [← hx]
    have e2 : preg qs k = x.reg := by unfold preg; rw [← hx]
    rw [← hx, e1, e2]
    by_cases h : x.place = p
    · have hn : (qs.take k).find? (fun x => decide (x.place = p)) = none := by
        rw [List.find?_eq_none]
        intro y hy
        obtain ⟨j, hj, rfl⟩ := List.getElem_of_mem hy
        have hj' : j < k := by simp at hj; omega
        have hne := hd j k hj' (by omega)
        rw [e1, h] at hne
        have hjl : j < qs.length := by omega
        simp only [decide_eq_true_eq]
        intro e
        apply hne
        simpa [pplace, List.getD, hjl] using e
      rw [hn, if_pos h]
      simp [h]
    · rw [if_neg h, ih]
      cases hf : (qs.take k).find? (fun x => decide (x.place = p)) <;> simp [h]

theorem namesOf_snoc {qs : List PairD} (hd : ∀ j k, j < k → k < qs.length → pplace qs j ≠ pplace qs k) (k : Nat) : ints (namesOf qs (k + 1)) = ints (namesOf qs k) ++ [.int .i64 (nameTo qs k qs.length)] := by
  rw [← ints_snoc, nameTo_find hd _ _ (Nat.le_refl _), List.take_length]
  simp only [namesOf, List.range_succ, List.map_append, List.map_cons, List.map_nil]
  rfl

set_option maxRecDepth 100000 in
set_option maxHeartbeats 4000000 in
theorem rNamed_cps (q : ProgD) (po : Option Addr) (pn pc b : Nat) (src : Int) (so : Option Addr) (sn sc : Nat) (qs : List PairD) (w : World) (hq : RdPairs w (.slice so sn sc) qs) (hd : ∀ j k, j < k → k < qs.length → pplace qs j ≠ pplace qs k) (h1 : 0 ≤ q.regs ∧ q.regs ≤ 8) (h2 : 0 ≤ q.slots ∧ q.slots ≤ 8) (Post : Ending → World → Prop)
    (hp : ∀ nv w', w'.ownsRow w.heap.size 3 1 nv (q.regs + q.slots).toNat (ints (namesOf qs (q.regs + q.slots).toNat)) → Below w.heap.size w w' → Post (.returned (viewV q (.slice po pn pc) b nv)) w') :
    Calls Tryz.prog 59 #[progV q (.slice po pn pc), .agg #[.int .i64 src, .slice so sn sc], .int .i64 b] w Post := by
  obtain ⟨i0, ii, iz0, iz1, iz2⟩ := info_parts Tryz.infoInt
  obtain ⟨so', sc', e0, hql, hqs⟩ := hq
  simp only [Value.slice.injEq] at e0
  obtain ⟨rfl, rfl, rfl⟩ := e0
  unfold viewV at hp
  unfold progV
  obtain ⟨n, hn⟩ : ∃ n : Nat, (q.regs + q.slots).toNat = n := ⟨_, rfl⟩
  have hn2 : q.regs + q.slots = n := by omega
  rw [hn] at hp
  have HP := Lib.hid hp
  have HT := Lib.hid (namesOf_snoc hd)
  clear hp hn hd
  generalize q.args = pa at *
  generalize q.regs = pr at *
  generalize q.data = pd at *
  generalize q.slots = ps at *
  obtain ⟨A, hA⟩ : ∃ A, A = (((w.alloc (.cells #[.int .i64 pa, .int .i64 pr, .int .i64 pd, .int .i64 ps, .slice po pn pc] 33)).alloc (.cells #[.int .i64 src, .slice so qs.length sc] 81)).alloc (.cells #[.int .i64 0, .int .i64 0, .int .i64 0, .int .i64 0, .slice none 0 0, .int .i64 0, .slice none 0 0] 87)).alloc (.cells #[.int .i64 pa, .int .i64 pr, .int .i64 pd, .int .i64 ps, .slice po pn pc, .int .i64 b, .slice none 0 0] 87) := ⟨_, rfl⟩
  have r0 : Row A w.heap.size 33 [.int .i64 pa, .int .i64 pr, .int .i64 pd, .int .i64 ps, .slice po pn pc] := by subst hA; exact Row.alloc (Row.alloc (Row.alloc (heap_alloc_new w _) _) _) _
  have rx : Row A (w.heap.size + 1) 81 [.int .i64 src, .slice so qs.length sc] := by subst hA; exact Row.alloc (Row.alloc (heap_alloc2_new w _ _) _) _
  have r1 : Row A (w.heap.size + 2) 87 zView := by
    subst hA
    have q := heap_alloc2_new (w.alloc (.cells #[.int .i64 pa, .int .i64 pr, .int .i64 pd, .int .i64 ps, .slice po pn pc] 33)) (.cells #[.int .i64 src, .slice so qs.length sc] 81) (.cells #[.int .i64 0, .int .i64 0, .int .i64 0, .int .i64 0, .slice none 0 0, .int .i64 0, .slice none 0 0] 87)
    simp only [World.size_alloc] at q
    exact Row.alloc q _
  have r2 : Row A (w.heap.size + 3) 87 [.int .i64 pa, .int .i64 pr, .int .i64 pd, .int .i64 ps, .slice po pn pc, .int .i64 b, .slice none 0 0] := by
    subst hA
    have q := heap_alloc2_new ((w.alloc (.cells #[.int .i64 pa, .int .i64 pr, .int .i64 pd, .int .i64 ps, .slice po pn pc] 33)).alloc (.cells #[.int .i64 src, .slice so qs.length sc] 81)) (.cells #[.int .i64 0, .int .i64 0, .int .i64 0, .int .i64 0, .slice none 0 0, .int .i64 0, .slice none 0 0] 87) (.cells #[.int .i64 pa, .int .i64 pr, .int .i64 pd, .int .i64 ps, .slice po pn pc, .int .i64 b, .slice none 0 0] 87)
    simp only [World.size_alloc] at q
    exact q
  have b0 : Below w.heap.size w A := by subst hA; exact ((((Below.refl w.heap.size w).alloc (Nat.le_refl _) _).alloc (by simp) _).alloc (by simp; omega) _).alloc (by simp; omega) _
  have z0 : w.heap.size + 4 ≤ A.heap.size := by subst hA; simp
  have HA := Lib.hid hA
  clear hA
  go_enter Tryz.func59, Tryz.ntmps59
  go_wp2
  rw [← HA.out]
  clear HA
  go_loopw [8] (fun i wr => ∃ (k : Nat) (sv : Value), k ≤ n ∧ i = .int .i64 k ∧ Row wr w.heap.size 33 [.int .i64 pa, .int .i64 pr, .int .i64 pd, .int .i64 ps, .slice po pn pc] ∧ Row wr (w.heap.size + 1) 81 [.int .i64 src, .slice so qs.length sc] ∧ Row wr (w.heap.size + 2) 87 zView ∧ Row wr (w.heap.size + 3) 87 [.int .i64 pa, .int .i64 pr, .int .i64 pd, .int .i64 ps, .slice po pn pc, .int .i64 b, sv] ∧
      wr.ownsRow (w.heap.size + 4) 3 1 sv k (ints (namesOf qs k)) ∧ Below w.heap.size w wr ∧ w.heap.size + 4 ≤ wr.heap.size)
    (fun i _ => n - (intOf i).toNat)
  case atStart => exact ⟨0, .slice none 0 0, Nat.zero_le _, rfl, r0, rx, r1, r2, World.ownsRow_nil _ _ _ _, b0, z0⟩
  case round =>
    clear r0 rx r1 r2 b0 z0 A
    rename World => w1
    obtain ⟨k, sv, hk, rfl, r0, rx, r1, r2, hown, hbel, hz⟩ := hrel
    obtain ⟨lo, lc, rfl⟩ := owns_slice hown
    have p1 := r0.cell (i := 1) rfl
    have p3 := r0.cell (i := 3) rfl
    by_cases hlt : k < n
    · go_wp2
      go_loopw [9, 10] (fun nv i wi => ∃ (j : Nat), j ≤ qs.length ∧ i = .int .i64 j ∧ nv = .int .i64 (nameTo qs k j) ∧ Below w1.heap.size w1 wi)
        (fun _ i _ => qs.length - (intOf i).toNat)
      case atStart => exact ⟨0, Nat.zero_le _, rfl, rfl, Below.refl _ _⟩
      case round =>
        obtain ⟨j, hj, rfl, rfl, kei⟩ := hrel
        clear p1 p3
        have bel' := hbel.trans (kei.mono hbel.size)
        by_cases hlt2 : j < qs.length
        · have x1 := cell_keep kei (rx.cell (i := 1) rfl)
          obtain ⟨qb, qoff, rfl, g0, g1⟩ := hqs j hlt2
          have y0 := cell_keep bel' g0
          have y1 := cell_keep bel' g1
          have hji : (0 : Int) ≤ (j : Int) := by omega
          have hjj : (j : Int) < (qs.length : Int) := by omega
          have HS : Hid (nameTo qs k (j + 1) = if pplace qs j = (k : Int) then preg qs j else nameTo qs k j) := rfl
          clear g0 g1 hqs r0 rx r1 r2 hown hbel bel' HT HP
          by_cases he : pplace qs j = (k : Int)
          · have HS2 : Hid (nameTo qs k (j + 1) = preg qs j) := by show _ = _; rw [HS.out, if_pos he]
            have e1 : (pplace qs j == (k : Int)) = true := by simp [he]
            have HE := Lib.hid he
            clear HS he
            generalize nameTo qs k j = old at *
            generalize preg qs j = rgv at *
            generalize pplace qs j = plv at *
            go_wp2
            go_roundw
            case rel => exact ⟨j + 1, by omega, by go_num, by rw [HS2.out], kei⟩
            case measure => simp [intOf]; omega
          · have HS2 : Hid (nameTo qs k (j + 1) = nameTo qs k j) := by show _ = _; rw [HS.out, if_neg he]
            have e1 : (pplace qs j == (k : Int)) = false := by simp [he]
            clear HS he
            generalize nameTo qs k j = old at *
            generalize preg qs j = rgv at *
            generalize pplace qs j = plv at *
            go_wp2
            go_roundw
            case rel => exact ⟨j + 1, by omega, by go_num, by rw [HS2.out], kei⟩
            case measure => simp [intOf]; omega
        · obtain rfl : j = qs.length := by omega
          have x1 := cell_keep kei (rx.cell (i := 1) rfl)
          have HT2 := Lib.hid (HT.out k)
          have r0' := r0.keep kei
          have rx' := rx.keep kei
          have r1' := r1.keep kei
          have r2' := r2.keep kei
          have own' := owns_below hown kei (Nat.le_refl _)
          have hz' : w.heap.size + 4 ≤ wr.heap.size := Nat.le_trans hz kei.size
          have v6 := r2'.cell (i := 6) rfl
          generalize nameTo qs k qs.length = X at *
          clear hqs r0 rx r1 r2 hown hbel hz kei HT HP
          go_wp2_with (at_builtin; refine wpList_append_own _ rfl _ _ 30 rfl (w.heap.size + 4) 3 i0 (.int .i64 0) 1 8 Tryz.underlying30 ii iz0 iz1 iz2 rfl (by decide) _ _ _ rfl (own'.alloc _) ⟨wr.heap.size, 0, none⟩ 1 1 [.int .i64 X] rfl rfl ?c1 (vw_one _) ?c3 ?c4 ?c5 ?_)
          try (case c1 => exact vw_new wr _ _)
          case c3 => unfold maxLen; omega
          case c4 => omega
          case c5 => first | omega | (simp; omega)
          intro v' w3 hown' hgrow _
          rw [← HT2.out] at hown'
          have hb2 := ((Below.refl (w.heap.size + 4) wr).alloc hz' (.cells #[.int .i64 X] 3)).grown hgrow (by simp; omega) (fun g hg => (own'.lt g hg).1)
          have q0 := r0'.below hb2 (by omega)
          have qx := rx'.below hb2 (by omega)
          have q1 := r1'.below hb2 (by omega)
          have q2 := r2'.below hb2 (by omega)
          obtain ⟨lo', lc', rfl⟩ := owns_slice hown'
          have y6 := q2.cell (i := 6) rfl
          have f6 := q2.frozen 6
          have q0s := q0.unset (a := ⟨w.heap.size + 3, 6, none⟩) (by show w.heap.size ≠ w.heap.size + 3; omega) (.slice lo' (k + 1) lc')
          have qxs := qx.unset (a := ⟨w.heap.size + 3, 6, none⟩) (by show w.heap.size + 1 ≠ w.heap.size + 3; omega) (.slice lo' (k + 1) lc')
          have q1s := q1.unset (a := ⟨w.heap.size + 3, 6, none⟩) (by show w.heap.size + 2 ≠ w.heap.size + 3; omega) (.slice lo' (k + 1) lc')
          have q2s := q2.set 6 (.slice lo' (k + 1) lc')
          have own3 := ownsRow_setCell_below hown' (a := ⟨w.heap.size + 3, 6, none⟩) (by show w.heap.size + 3 < w.heap.size + 4; omega) (.slice lo' (k + 1) lc')
          have bel3 := below_set (g := w.heap.size + 3) (i := 6) (bel'.trans (hb2.mono (by omega))) (by omega) (.slice lo' (k + 1) lc')
          have hz3 : w.heap.size + 4 ≤ (w3.setCell ⟨w.heap.size + 3, 6, none⟩ (.slice lo' (k + 1) lc')).heap.size := by have := hb2.size; simp; omega
          clear hown' hgrow own' r0' rx' r1' r2' q0 qx q1 q2 hb2 HT2 v6 x1
          go_wp2
          go_roundw
          case rel => exact ⟨k + 1, _, by omega, by go_num, q0s, qxs, q1s, q2s, own3, bel3, hz3⟩
          case measure => simp [intOf]; omega
    · obtain rfl : k = n := by omega
      have HF : Hid (Post (.returned (.agg #[.int .i64 pa, .int .i64 pr, .int .i64 pd, .int .i64 ps, .slice po pn pc, .int .i64 b, .slice lo k lc])) (set7 w1 (w.heap.size + 2) (.int .i64 pa) (.int .i64 pr) (.int .i64 pd) (.int .i64 ps) (.slice po pn pc) (.int .i64 b) (.slice lo k lc))) :=
        HP.out _ _ (owns_base (set7_owns hown (by omega) _ _ _ _ _ _ _) (by omega)) (set7_below hbel (by omega) _ _ _ _ _ _ _)
      have v0 := r2.cell (i := 0) rfl
      have a0 := r1.cell (i := 0) rfl
      have f0 := r1.frozen 0
      have v1 := r2.cell (i := 1) rfl
      have a1 := r1.cell (i := 1) rfl
      have f1 := r1.frozen 1
      have v2 := r2.cell (i := 2) rfl
      have a2 := r1.cell (i := 2) rfl
      have f2 := r1.frozen 2
      have v3 := r2.cell (i := 3) rfl
      have a3 := r1.cell (i := 3) rfl
      have f3 := r1.frozen 3
      have v4 := r2.cell (i := 4) rfl
      have a4 := r1.cell (i := 4) rfl
      have f4 := r1.frozen 4
      have v5 := r2.cell (i := 5) rfl
      have a5 := r1.cell (i := 5) rfl
      have f5 := r1.frozen 5
      have v6 := r2.cell (i := 6) rfl
      have a6 := r1.cell (i := 6) rfl
      have f6 := r1.frozen 6
      clear HP r0 r1 r2 rx hown hbel HT hqs
      go_wp2
      exact bodyPost_ret (v := .agg #[.int .i64 pa, .int .i64 pr, .int .i64 pd, .int .i64 ps, .slice po pn pc, .int .i64 b, .slice lo k lc]) (by simp [results, Tryz.results59, go_sem, a0, a1, a2, a3, a4, a5, a6]) rfl HF.out

end Go.Proofs.YtblhmeidbjigaaaGreatDoor
