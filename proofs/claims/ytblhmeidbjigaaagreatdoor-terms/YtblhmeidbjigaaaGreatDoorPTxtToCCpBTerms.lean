/- Texts of programs: what is read is what was written. -/
import Derived.Test.YtblhmeidbjigaaaGreatDoorRows
import Derived.WalkKit
import Derived.WalkSpells
import Derived.WalkLawsBesides
import Derived.Laws.BytesArg
import Derived.Deep.QuietTactic
import Derived.BigQuiet
import Derived.Deep.RegionHeld3
import Derived.Maps.AppendAt
import Derived.StillTailTactics
import Derived.Lib.ItoaNum
import Derived.Lib.ItoaLen
import Derived.OpenShut
import Derived.Shelf.Strconv.Itoa3
import Derived.Shelf.Lay
import Derived.Ground.NamesProg
import Derived.Lib.SmallJoins
import Derived.Lib.Hide
import Derived.Test.YtblhmeidbjigaaaGreatDoorPCodKToPRefFTerms

set_option linter.unusedSimpArgs false
set_option linter.unusedVariables false
namespace Go.Proofs.YtblhmeidbjigaaaGreatDoor
open Go.RowKit

def oct4 (a b c d : Int) : Prop := (0 ≤ a ∧ a < 256) ∧ (0 ≤ b ∧ b < 256) ∧ (0 ≤ c ∧ c < 256) ∧ (0 ≤ d ∧ d < 256)

theorem opGood_oct {regs slots : Int} {o : OpD} (h : opGood regs slots o = true) (hr : regs ≤ 8) (hs : slots ≤ 8) : oct4 o.kind o.a o.b o.c := by
  unfold oct4
  simp only [opGood, below] at h
  repeat' split at h
  all_goals first | (simp at h; done) | (simp at h; omega)

theorem endGood_oct {regs n : Int} {e : EndD} (h : endGood regs n e = true) (hr : regs ≤ 8) (hn : n ≤ 6) : oct4 e.kind e.r e.x e.y := by
  unfold oct4
  simp only [endGood, below] at h
  repeat' split at h
  all_goals first | (simp at h; done) | (simp at h; omega)

theorem opsText_get (l : List OpD) (i : Nat) (hi : i < l.length) : (opsText l)[i * 4]? = some (byt (okind l i)) ∧ (opsText l)[i * 4 + 1]? = some (byt (oa l i)) ∧ (opsText l)[i * 4 + 2]? = some (byt (ob l i)) ∧ (opsText l)[i * 4 + 3]? = some (byt (oc l i)) := by
  induction l generalizing i with
  | nil => simp at hi
  | cons p r ih =>
    cases i with
    | zero => exact ⟨rfl, rfl, rfl, rfl⟩
    | succ i =>
      have h := ih i (by simpa using hi)
      have e1 : (i + 1) * 4 = i * 4 + 1 + 1 + 1 + 1 := by omega
      rw [e1]
      exact h

def opsOk (l : List OpD) : Prop := ∀ i, i < l.length → oct4 (okind l i) (oa l i) (ob l i) (oc l i)

theorem byte_mid {d : Int} {l a b c : List UInt8} {o i : Nat} {x : Int} {q : Int} (hl : l = a ++ b ++ c) (ho : a.length = o) (h : b[i]? = some (byt x)) (h0 : 0 ≤ x) (h1 : x < 256) (hq : q = ((o + i : Nat) : Int)) : byteOr d (str l) q = x := by
  rw [hq, byteOr_str (get_mid hl ho h), byt_toNat h0 h1]

theorem opsAt_text {d : Int} {l a c : List UInt8} {ps : List OpD} {o : Nat} (hl : l = a ++ opsText ps ++ c) (ho : a.length = o) (hok : opsOk ps) (k : Nat) (hk : k ≤ ps.length) : opsAt d (str l) o k = ps.take k := by
  induction k with
  | zero => rfl
  | succ k ih =>
    have hk' : k < ps.length := by omega
    obtain ⟨g1, g2, g3, g4⟩ := opsText_get ps k hk'
    obtain ⟨o1, o2, o3, o4⟩ := hok k hk'
    have e1 : byteOr d (str l) ((o : Int) + 4 * k) = okind ps k := byte_mid hl ho g1 o1.1 o1.2 (by omega)
    have e2 : byteOr d (str l) ((o : Int) + 4 * k + 1) = oa ps k := byte_mid hl ho g2 o2.1 o2.2 (by omega)
    have e3 : byteOr d (str l) ((o : Int) + 4 * k + 2) = ob ps k := byte_mid hl ho g3 o3.1 o3.2 (by omega)
    have e4 : byteOr d (str l) ((o : Int) + 4 * k + 3) = oc ps k := byte_mid hl ho g4 o4.1 o4.2 (by omega)
    rw [opsAt, ih (by omega), e1, e2, e3, e4, take_getD ps oz k hk']
    rfl

theorem progText_split (p : ProgD) {k : Nat} (hk : k < p.blocks.length) :
    progText p = (headText p ++ (p.blocks.take k).flatMap blockText) ++ blockText (p.blocks.getD k bz) ++ (p.blocks.drop (k + 1)).flatMap blockText := by
  unfold progText
  have e : p.blocks = p.blocks.take k ++ (p.blocks.getD k bz :: p.blocks.drop (k + 1)) := by rw [← drop_getD p.blocks bz k hk, List.take_append_drop]
  conv => lhs; arg 2; rw [e]
  simp [List.flatMap_append, List.flatMap_cons]

/-- Where the k-th block begins in the text of p. -/
def poff (p : ProgD) (k : Nat) : Nat := 7 + ((p.blocks.take k).flatMap blockText).length

theorem poff_succ {p : ProgD} {k : Nat} (hk : k < p.blocks.length) : poff p (k + 1) = poff p k + 1 + 4 * (bops p.blocks k).length + 4 := by
  unfold poff
  rw [take_getD p.blocks bz k hk, List.flatMap_append]
  simp [blockText_length, bops]
  omega

theorem headText_length (p : ProgD) : (headText p).length = 7 := rfl

theorem poff_len (p : ProgD) : (progText p).length = poff p p.blocks.length := by
  simp [poff, progText, headText_length]

theorem poff_mono {p : ProgD} {k : Nat} (hk : k < p.blocks.length) : poff p (k + 1) ≤ (progText p).length := by
  have := progText_split p hk
  rw [this]
  rw [poff_succ hk]
  simp [blockText_length, poff, bops, headText_length]
  omega

theorem progGood_nums {p : ProgD} (hg : progGood p = true) : (1 ≤ p.regs ∧ p.regs ≤ 8) ∧ (0 ≤ p.args ∧ p.args ≤ p.regs) ∧ (0 ≤ p.data ∧ p.data ≤ 8) ∧ (0 ≤ p.slots ∧ p.slots ≤ 8) := by
  simp [progGood] at hg; omega

theorem progGood_oct {p : ProgD} (hg : progGood p = true) {k : Nat} (hk : k < p.blocks.length) : opsOk (bops p.blocks k) ∧ oct4 (bek p.blocks k) (ber p.blocks k) (bex p.blocks k) (bey p.blocks k) := by
  have hb := progGood_block hg (p.blocks.getD k bz) (getD_mem' hk)
  have hn := progGood_nums hg
  have hl := progGood_len hg
  simp only [blockGood, Bool.and_eq_true] at hb
  refine ⟨?_, endGood_oct hb.2 (by omega) (by omega)⟩
  intro i hi
  have := hb.1.2
  simp only [opsGood, List.all_eq_true] at this
  exact opGood_oct (this _ (getD_mem' (d := oz) hi)) (by omega) (by omega)

/-- What is read at the k-th block of a good program's text. -/
theorem read_pblock {d : Int} {p : ProgD} (hg : progGood p = true) {k : Nat} (hk : k < p.blocks.length) :
    byteOr d (str (progText p)) (poff p k) = (bops p.blocks k).length ∧ blkAt d (str (progText p)) (poff p k) (bops p.blocks k).length = p.blocks.getD k bz := by
  have hs := progText_split p hk
  obtain ⟨ho1, ho2⟩ := progGood_oct hg hk
  have hlen := progGood_ops hg hk
  have ho : (headText p ++ (p.blocks.take k).flatMap blockText).length = poff p k := by simp [poff, headText_length]
  have e0 : byteOr d (str (progText p)) (poff p k) = (bops p.blocks k).length := byte_mid hs ho (i := 0) rfl (by omega) (by omega) (by omega)
  have hs1 : progText p = (headText p ++ (p.blocks.take k).flatMap blockText ++ [byt (bops p.blocks k).length]) ++ opsText (bops p.blocks k) ++ (endText (bfin p.blocks k) ++ (p.blocks.drop (k + 1)).flatMap blockText) := by
    rw [hs]; simp [blockText, bops, bfin]
  have hs2 : progText p = (headText p ++ (p.blocks.take k).flatMap blockText ++ [byt (bops p.blocks k).length] ++ opsText (bops p.blocks k)) ++ endText (bfin p.blocks k) ++ (p.blocks.drop (k + 1)).flatMap blockText := by
    rw [hs]; simp [blockText, bops, bfin]
  have l1 : (headText p ++ (p.blocks.take k).flatMap blockText ++ [byt (bops p.blocks k).length]).length = poff p k + 1 := by rw [List.length_append, ho]; rfl
  have l2 : (headText p ++ (p.blocks.take k).flatMap blockText ++ [byt (bops p.blocks k).length] ++ opsText (bops p.blocks k)).length = poff p k + 1 + 4 * (bops p.blocks k).length := by rw [List.length_append, l1, opsText_length]
  have e1 := opsAt_text (d := d) hs1 l1 ho1 _ (Nat.le_refl _)
  rw [List.take_length] at e1
  obtain ⟨q1, q2, q3, q4⟩ := ho2
  have f1 : byteOr d (str (progText p)) ((poff p k : Int) + 1 + 4 * (bops p.blocks k).length) = bek p.blocks k := byte_mid hs2 l2 (i := 0) rfl q1.1 q1.2 (by omega)
  have f2 : byteOr d (str (progText p)) ((poff p k : Int) + 1 + 4 * (bops p.blocks k).length + 1) = ber p.blocks k := byte_mid hs2 l2 (i := 1) rfl q2.1 q2.2 (by omega)
  have f3 : byteOr d (str (progText p)) ((poff p k : Int) + 1 + 4 * (bops p.blocks k).length + 2) = bex p.blocks k := byte_mid hs2 l2 (i := 2) rfl q3.1 q3.2 (by omega)
  have f4 : byteOr d (str (progText p)) ((poff p k : Int) + 1 + 4 * (bops p.blocks k).length + 3) = bey p.blocks k := byte_mid hs2 l2 (i := 3) rfl q4.1 q4.2 (by omega)
  refine ⟨e0, ?_⟩
  unfold blkAt finAt
  rw [f1, f2, f3, f4, show (poff p k : Int) + 1 = ((poff p k + 1 : Nat) : Int) by omega, e1]
  rfl

theorem read_phead {d : Int} {p : ProgD} (hg : progGood p = true) : byteOr d (str (progText p)) 0 = 84 ∧ byteOr d (str (progText p)) 1 = 87 ∧ byteOr d (str (progText p)) 2 = p.args ∧ byteOr d (str (progText p)) 3 = p.regs ∧ byteOr d (str (progText p)) 4 = p.data ∧ byteOr d (str (progText p)) 5 = p.slots ∧ byteOr d (str (progText p)) 6 = p.blocks.length := by
  have hl := progGood_len hg
  have hn := progGood_nums hg
  have hs : progText p = [] ++ headText p ++ p.blocks.flatMap blockText := rfl
  refine ⟨byteOr_str (i := 0) (b := 84) rfl, byteOr_str (i := 1) (b := 87) rfl, ?_, ?_, ?_, ?_, ?_⟩
  · exact byte_mid hs (o := 0) rfl (i := 2) rfl (by omega) (by omega) (by omega)
  · exact byte_mid hs (o := 0) rfl (i := 3) rfl (by omega) (by omega) (by omega)
  · exact byte_mid hs (o := 0) rfl (i := 4) rfl (by omega) (by omega) (by omega)
  · exact byte_mid hs (o := 0) rfl (i := 5) rfl (by omega) (by omega) (by omega)
  · exact byte_mid hs (o := 0) rfl (i := 6) rfl (by omega) (by omega) (by omega)

theorem pcod_reads {p : ProgD} (hg : progGood p = true) (k : Nat) (hk : k ≤ p.blocks.length) : patOf (str (progText p)) k = poff p k ∧ blocksOf (str (progText p)) k = p.blocks.take k := by
  induction k with
  | zero => exact ⟨rfl, rfl⟩
  | succ k ih =>
    obtain ⟨e1, e2⟩ := ih (by omega)
    obtain ⟨r1, r2⟩ := read_pblock (d := -1) hg (show k < p.blocks.length by omega)
    constructor
    · rw [patOf, e1, r1, poff_succ (by omega), Int.toNat_natCast]; omega
    · rw [blocksOf, e2, e1, r1, Int.toNat_natCast, r2, take_getD p.blocks bz k (by omega)]

theorem pref_reads {p : ProgD} (hg : progGood p = true) (k : Nat) (hk : k ≤ p.blocks.length) : prAt (str (progText p)) k = poff p k ∧ rBlocks (str (progText p)) k = p.blocks.take k := by
  induction k with
  | zero => exact ⟨rfl, rfl⟩
  | succ k ih =>
    obtain ⟨e1, e2⟩ := ih (by omega)
    obtain ⟨r1, r2⟩ := read_pblock (d := 0) hg (show k < p.blocks.length by omega)
    have hm := poff_mono (show k < p.blocks.length by omega)
    have hsu := poff_succ (show k < p.blocks.length by omega)
    have hj : jst4 (str (progText p)).size ((poff p k : Int) + 1) (bops p.blocks k).length = (bops p.blocks k).length := by
      unfold jst4
      rw [str_size]
      omega
    constructor
    · rw [prAt, e1, r1, Int.toNat_natCast, hj, hsu]; omega
    · rw [rBlocks, e2, e1, r1, Int.toNat_natCast, hj, r2, take_getD p.blocks bz k (by omega)]

theorem progD_eta (p : ProgD) : (⟨p.args, p.regs, p.data, p.slots, p.blocks⟩ : ProgD) = p := rfl

theorem pref_stops {p : ProgD} (hg : progGood p = true) {i : Nat} (hi : PRStop (str (progText p)) i) : progR (str (progText p)) i = p := by
  obtain ⟨_, _, h2, h3, h4, h5, h6⟩ := read_phead (d := 0) hg
  have : i = p.blocks.length := by
    rcases Nat.lt_trichotomy i p.blocks.length with hlt | heq | hgt
    · exfalso
      apply hi.stop
      rw [h6, (pref_reads hg i (by omega)).1, str_size]
      have := poff_mono hlt
      have := poff_succ hlt
      omega
    · exact heq
    · have := (hi.done p.blocks.length hgt).1
      rw [h6] at this
      omega
  subst this
  unfold progR
  rw [(pref_reads hg _ (Nat.le_refl _)).2, List.take_length, h2, h3, h4, h5]

/-! ### Back: what was read, written again -/

theorem seg_one {s : ByteArray} {i : Nat} (h : i < s.size) : seg s i 1 = [byt (byteOr (-1) s i)] := by
  have hl : s.data.toList.length = s.size := Array.length_toList
  rw [byteOr_in h, byt_of]
  unfold seg
  rw [List.drop_eq_getElem_cons (by omega)]
  rfl

theorem seg_four {s : ByteArray} {i : Nat} (h : i + 3 < s.size) : seg s i 4 = [byt (byteOr (-1) s i), byt (byteOr (-1) s ((i : Int) + 1)), byt (byteOr (-1) s ((i : Int) + 2)), byt (byteOr (-1) s ((i : Int) + 3))] := by
  rw [show (4 : Nat) = 2 + 2 from rfl, seg_add, seg_two (by omega), seg_two (by omega)]
  rw [show ((i + 2 : Nat) : Int) = (i : Int) + 2 by omega, show (i : Int) + 2 + 1 = (i : Int) + 3 by omega]
  rfl

theorem ops_seg {s : ByteArray} {o : Nat} (k : Nat) (h : o + 4 * k ≤ s.size) : opsText (opsAt (-1) s o k) = seg s o (4 * k) := by
  induction k with
  | zero => simp [opsAt, opsText, seg]
  | succ k ih =>
    rw [show 4 * (k + 1) = 4 * k + 4 by omega, seg_add, ← ih (by omega), seg_four (by omega)]
    simp only [opsAt, opsText, List.flatMap_append, List.flatMap_cons, List.flatMap_nil, List.append_nil]
    rw [show ((o + 4 * k : Nat) : Int) = (o : Int) + 4 * k by omega]
    rfl

theorem block_seg {s : ByteArray} {a m : Nat} (hm : byteOr (-1) s a = m) (h : a + 1 + 4 * m + 4 ≤ s.size) : blockText (blkAt (-1) s a m) = seg s a (1 + 4 * m + 4) := by
  rw [seg_add, seg_add, seg_one (by omega), hm, ← ops_seg m (by omega), seg_four (by omega)]
  simp only [blockText, blkAt, opsAt_length, endText, finAt]
  rw [show ((a + (1 + 4 * m) : Nat) : Int) = (a : Int) + 1 + 4 * m by omega, show ((a + 1 : Nat) : Int) = (a : Int) + 1 by omega]

theorem blocksOf_length (s : ByteArray) (k : Nat) : (blocksOf s k).length = k := by
  induction k with
  | zero => rfl
  | succ k ih => simp [blocksOf, ih]

theorem blocks_seg {s : ByteArray} (k : Nat) (h : patOf s k ≤ s.size) : (blocksOf s k).flatMap blockText = seg s 7 (patOf s k - 7).toNat := by
  induction k with
  | zero => simp [blocksOf, patOf, seg]
  | succ k ih =>
    have hb := patOf_bd s k
    obtain ⟨a, ha⟩ := Int.eq_ofNat_of_zero_le (show 0 ≤ patOf s k by omega)
    have hstep : patOf s (k + 1) = patOf s k + (1 + 4 * (byteOr (-1) s (patOf s k)).toNat + 4) := rfl
    generalize hm' : (byteOr (-1) s (patOf s k)).toNat = m at hstep
    have hcnt : byteOr (-1) s a = m := by
      rw [ha, byteOr_in (by omega)] at hm'
      rw [byteOr_in (by omega)]
      omega
    have e3 : (patOf s (k + 1) - 7).toNat = (patOf s k - 7).toNat + (1 + 4 * m + 4) := by omega
    rw [blocksOf, List.flatMap_append, ih (by omega), e3, seg_add]
    have ea : 7 + (patOf s k - 7).toNat = a := by omega
    rw [ea, hm', ha]
    congr 1
    simp only [List.flatMap_cons, List.flatMap_nil, List.append_nil]
    exact block_seg hcnt (by omega)

theorem pcod_text {s : ByteArray} (h : readsProg s = true) : str (progText (progOf s)) = s := by
  simp only [readsProg, Bool.and_eq_true, decide_eq_true_eq] at h
  obtain ⟨⟨⟨h0, h1⟩, h2⟩, h3⟩ := h
  have hb := patOf_bd s (byteOr (-1) s 6).toNat
  have hl : s.data.toList.length = s.size := Array.length_toList
  have hc : ((byteOr (-1) s 6).toNat : Int) = byteOr (-1) s 6 := by
    have e : byteOr (-1) s ((6 : Nat) : Int) = _ := byteOr_in (d := -1) (show 6 < s.size by omega)
    have e' : byteOr (-1) s 6 = _ := e
    rw [e']
    omega
  have hs := blocks_seg (s := s) (byteOr (-1) s 6).toNat (by omega)
  have f0 : seg s 0 s.size = s.data.toList := by unfold seg; rw [List.drop_zero, ← hl, List.take_length]
  have f1 : s.size = 2 + 4 + 1 + (patOf s (byteOr (-1) s 6).toNat - 7).toNat := by omega
  have e2 := seg_two (s := s) (i := 0) (by omega)
  have e4 := seg_four (s := s) (i := 2) (by omega)
  have e1 := seg_one (s := s) (i := 6) (by omega)
  have z0 : byteOr (-1) s ((0 : Nat) : Int) = 84 := h0
  have z1 : byteOr (-1) s (((0 : Nat) : Int) + 1) = 87 := h1
  rw [z0, z1] at e2
  rw [f1, seg_add, seg_add, seg_add] at f0
  have e2' : seg s 0 2 = [84, 87] := e2
  have e4' : seg s (0 + 2) 4 = [byt (byteOr (-1) s 2), byt (byteOr (-1) s 3), byt (byteOr (-1) s 4), byt (byteOr (-1) s 5)] := e4
  have e1' : seg s (0 + (2 + 4)) 1 = [byt (byteOr (-1) s 6)] := e1
  have hs' : seg s (0 + (2 + 4 + 1)) (patOf s (byteOr (-1) s 6).toNat - 7).toNat = (blocksOf s (byteOr (-1) s 6).toNat).flatMap blockText := hs.symm
  rw [e2', e4', e1', hs'] at f0
  have f2 : progText (progOf s) = s.data.toList := by
    rw [← f0]
    simp only [progText, headText, progOf, blocksOf_length, hc]
    rfl
  rw [f2, ← str_of]

/-! ### The two contracts, in the document's words -/

theorem cDecode_any (s : ByteArray) (w : World) (hs : s.size ≤ maxLen) :
    Calls Tryz.prog 65 #[.string s] w fun e w' => ((∃ p v bv, e = .returned (.tuple #[progV p v, .int .i64 0]) ∧ OwnBlocks w' w.heap.size v bv ∧ bdat bv = p.blocks ∧ progGood p = true ∧ str (progText p) = s) ∨
      ((∀ p, progGood p = true → str (progText p) ≠ s) ∧ e = .returned (.tuple #[.agg #[.int .i64 0, .int .i64 0, .int .i64 0, .int .i64 0, .slice none 0 0], .int .i64 1]))) ∧ Below w.heap.size w w' := by
  refine cDecode_cps s w hs _ ?_ ?_
  · intro v bv w' hr ho hd hb
    refine ⟨.inl ⟨progOf s, v, bv, rfl, ho, hd, ?_, pcod_text hr⟩, hb⟩
    simp only [readsProg, Bool.and_eq_true] at hr; exact hr.2
  · intro w' hr hb
    refine ⟨.inr ⟨?_, rfl⟩, hb⟩
    intro p hg he
    subst he
    obtain ⟨r0, r1, r2, r3, r4, r5, r6⟩ := read_phead (d := -1) hg
    have := pcod_reads hg p.blocks.length (Nat.le_refl _)
    simp only [readsProg, progOf, r0, r1, r2, r3, r4, r5, r6, Int.toNat_natCast, this.1, this.2, List.take_length, progD_eta, hg, str_size, poff_len] at hr
    simp at hr

theorem rDecode_any (s : ByteArray) (w : World) (hs : s.size ≤ maxLen) :
    Calls Tryz.prog 34 #[.string s] w fun e w' => ((∃ p v bv, e = .returned (.tuple #[progV p v, .bool true]) ∧ OwnBlocks w' w.heap.size v bv ∧ bdat bv = p.blocks ∧ progGood p = true ∧ str (progText p) = s) ∨
      ((∀ p, progGood p = true → str (progText p) ≠ s) ∧ e = .returned (.tuple #[.agg #[.int .i64 0, .int .i64 0, .int .i64 0, .int .i64 0, .slice none 0 0], .bool false]))) ∧ Below w.heap.size w w' := by
  refine rDecode_cps s w hs _ ?_ ?_
  · intro v bv w' i _ ho hd hg ht hb
    exact ⟨.inl ⟨progR s i, v, bv, rfl, ho, hd, hg, ht⟩, hb⟩
  · intro w' i hst hr hb
    refine ⟨.inr ⟨?_, rfl⟩, hb⟩
    intro p hg he
    subst he
    have := pref_stops hg hst
    rw [this] at hr
    exact hr hg rfl

/-- A text is the text of one program at most. -/
theorem prog_one {p q : ProgD} (hp : progGood p = true) (hq : progGood q = true) (e : str (progText p) = str (progText q)) : p = q := by
  obtain ⟨_, _, a2, a3, a4, a5, a6⟩ := read_phead (d := -1) hp
  obtain ⟨_, _, b2, b3, b4, b5, b6⟩ := read_phead (d := -1) hq
  have c := (pcod_reads hp p.blocks.length (Nat.le_refl _)).2
  have d := (pcod_reads hq q.blocks.length (Nat.le_refl _)).2
  rw [e] at a2 a3 a4 a5 a6 c
  have hl : p.blocks.length = q.blocks.length := by omega
  rw [hl, d, List.take_length, ← hl, List.take_length] at c
  rw [← progD_eta p, ← progD_eta q, ← c, ← a2, ← a3, ← a4, ← a5, b2, b3, b4, b5]

end Go.Proofs.YtblhmeidbjigaaaGreatDoor

/- The law on programs: reading. -/
set_option linter.unusedSimpArgs false
set_option linter.unusedVariables false
namespace Go.Proofs.YtblhmeidbjigaaaGreatDoor
open Go.RowKit

theorem Row.kept {S : Nat → Prop} {w w' : World} {g : Nat} {e : TypeId} {xs : List Value} (h : Row w g e xs) (hk : Keep S w w') (hn : ¬ S g) : Row w' g e xs := h.same (hk.block g h.lt hn)

end Go.Proofs.YtblhmeidbjigaaaGreatDoor

/- An end out of raw numbers. -/
set_option linter.unusedSimpArgs false
set_option linter.unusedVariables false
namespace Go.Proofs.YtblhmeidbjigaaaGreatDoor
open Go.RowKit

theorem Keep.trans {S : Nat → Prop} {w a b : World} (h : Keep S w a) (h2 : Keep S a b) : Keep S w b :=
  h.step h2.os h2.tape h2.output h2.size fun k hk hn => h2.block k (Nat.lt_of_lt_of_le hk h.size) hn

end Go.Proofs.YtblhmeidbjigaaaGreatDoor

/- The machine lets words out. -/
set_option linter.unusedSimpArgs false
set_option linter.unusedVariables false
namespace Go.Proofs.YtblhmeidbjigaaaGreatDoor
open Go.RowKit

theorem Row.grown {w w' : World} {M : Nat} {t : TypeId} {xs : List Value} {row : Option Nat} (h : Row w M t xs) (hg : w.grownBy w' row) (hne : row ≠ some M) : Row w' M t xs := h.same (hg.block M h.lt (fun e => hne e.symm))

theorem Keep.mono {S S' : Nat → Prop} {w w' : World} (h : Keep S w w') (hs : ∀ g, S g → S' g) : Keep S' w w' := ⟨h.os, h.tape, h.output, h.size, fun k hk hn => h.block k hk (fun e => hn (hs k e))⟩

end Go.Proofs.YtblhmeidbjigaaaGreatDoor

/- The machine's Load. -/
set_option linter.unusedSimpArgs false
set_option linter.unusedVariables false
namespace Go.Proofs.YtblhmeidbjigaaaGreatDoor
open Go.RowKit

/-- A region that reads, then one store (or what follows of itself). -/
theorem wp_tail {P : Program} {id : Nat} {Q : Exit → Act → World → Prop} {a : Act} {w : World} {l : List Oper} (n : Nat) (hm : P.follows .mixedOrders = true) (hB : Region.lexTailB .any l.toArray n = true)
    (h : wpStill P l.toArray w.drew (fun a' => wpList P l.toArray Q (l.drop n) a' w.drew) (l.take n) a) : (Code.region id l.toArray true).wp P Q a w :=
  wp_region_still_tail n hm hB h

end Go.Proofs.YtblhmeidbjigaaaGreatDoor

/- The machine does an operation; the operations of a block; where it goes on. -/
set_option linter.unusedSimpArgs false
set_option linter.unusedVariables false
namespace Go.Proofs.YtblhmeidbjigaaaGreatDoor
open Go.RowKit

theorem opGood_kind {regs slots : Int} {o : OpD} (h : opGood regs slots o = true) : 1 ≤ o.kind ∧ o.kind ≤ 15 := by
  unfold opGood at h
  repeat' split at h
  all_goals first | omega | simp at h

end Go.Proofs.YtblhmeidbjigaaaGreatDoor

/- The machine does the operations of a block; where it goes on. -/
set_option linter.unusedSimpArgs false
set_option linter.unusedVariables false
namespace Go.Proofs.YtblhmeidbjigaaaGreatDoor
open Go.RowKit

theorem opsGood_at {regs slots : Int} {l : List OpD} (h : opsGood regs slots l = true) {k : Nat} (hk : k < l.length) : opGood regs slots ⟨okind l k, oa l k, ob l k, oc l k⟩ = true := by
  have := List.all_eq_true.1 h (l.getD k oz) (getD_mem' hk)
  exact this

end Go.Proofs.YtblhmeidbjigaaaGreatDoor

/- Terms and marks of a list of operations, step by step; pure. -/
set_option linter.unusedSimpArgs false
set_option linter.unusedVariables false
noncomputable section
namespace Go.Proofs.YtblhmeidbjigaaaGreatDoor
open Go.RowKit Classical

/-- What an operation makes. -/
def givesT (regs slots : Int) (was : Int → TD) (o : OpD) : TD :=
  if o.kind = 1 then tnum (256 * o.b + o.c - 32768)
  else if o.kind = 2 ∨ o.kind = 14 then was o.b
  else if o.kind = 15 then was (regs + o.b)
  else if o.kind = 12 then readT (was (regs + slots)) (was o.b)
  else if o.kind = 13 then writtenT (was (regs + slots)) (was o.a) (was o.b)
  else madeT o.kind (was o.b) (was o.c)

/-- Behind an operation. -/
def stepT (regs slots : Int) (was : Int → TD) (o : OpD) : Int → TD := fun place => if writesT regs slots o ≠ place then was place else givesT regs slots was o

def foldT (regs slots : Int) : List OpD → (Int → TD) → (Int → TD)
  | [], was => was
  | o :: l, was => foldT regs slots l (stepT regs slots was o)

theorem foldT_append (regs slots : Int) (l m : List OpD) (was : Int → TD) : foldT regs slots (l ++ m) was = foldT regs slots m (foldT regs slots l was) := by
  induction l generalizing was with
  | nil => rfl
  | cons o l ih => exact ih _

theorem behind_succ (regs slots : Int) (names : List Int) (ops : List OpD) (k : Nat) : behindT regs slots names ops (k + 1) = stepT regs slots (behindT regs slots names ops k) (ops.getD k oz) := by
  funext place
  simp only [behindT, stepT, givesT]

theorem take_succ' {ops : List OpD} {k : Nat} (h : k < ops.length) : ops.take (k + 1) = ops.take k ++ [ops.getD k oz] := by
  rw [List.take_add_one, List.getElem?_eq_getElem h]
  simp [List.getD, h]

theorem behind_fold (regs slots : Int) (names : List Int) (ops : List OpD) : ∀ k, k ≤ ops.length → behindT regs slots names ops k = foldT regs slots (ops.take k) (firstT names) := by
  intro k
  induction k with
  | zero => intro _; funext p; simp [behindT, foldT]
  | succ k ih =>
    intro hk
    rw [behind_succ, ih (by omega), take_succ' (by omega), foldT_append]
    rfl

end Go.Proofs.YtblhmeidbjigaaaGreatDoor

/- Big blocks, step by step; pure. -/
set_option linter.unusedSimpArgs false
set_option linter.unusedVariables false
noncomputable section
namespace Go.Proofs.YtblhmeidbjigaaaGreatDoor
open Go.RowKit Classical

def bigOp (regs slots : Int) (was : Int → TD) (o : OpD) : Bool := decide (3 ≤ o.kind ∧ o.kind ≤ 13 ∧ 4095 < (givesT regs slots was o).size)

def bigF (regs slots : Int) : List OpD → (Int → TD) → Bool
  | [], _ => false
  | o :: l, was => bigOp regs slots was o || bigF regs slots l (stepT regs slots was o)

theorem bigF_append (regs slots : Int) (l m : List OpD) (was : Int → TD) : bigF regs slots (l ++ m) was = (bigF regs slots l was || bigF regs slots m (foldT regs slots l was)) := by
  induction l generalizing was with
  | nil => simp [bigF, foldT]
  | cons o l ih => simp only [List.cons_append, bigF, foldT, ih, Bool.or_assoc]

theorem step_writes (regs slots : Int) (was : Int → TD) (o : OpD) : stepT regs slots was o (writesT regs slots o) = givesT regs slots was o := by
  unfold stepT; simp

theorem big_fold (regs slots : Int) (names : List Int) (ops : List OpD) : ∀ k, k ≤ ops.length →
    ((List.range k).any fun k => decide (3 ≤ okind ops k ∧ okind ops k ≤ 13 ∧ 4095 < (behindT regs slots names ops (k + 1) (writesT regs slots (ops.getD k oz))).size)) = bigF regs slots (ops.take k) (firstT names) := by
  intro k
  induction k with
  | zero => intro _; simp [bigF]
  | succ k ih =>
    intro hk
    rw [List.range_succ, List.any_append, ih (by omega), take_succ' (by omega), bigF_append, ← behind_fold _ _ _ _ _ (by omega)]
    simp only [List.any_cons, List.any_nil, Bool.or_false, bigF]
    rw [behind_succ, step_writes]
    rfl

theorem big_all (regs slots : Int) (names : List Int) (ops : List OpD) : bigT regs slots names ops = bigF regs slots ops (firstT names) := by
  have := big_fold regs slots names ops ops.length (Nat.le_refl _)
  rw [List.take_length] at this
  exact this

end Go.Proofs.YtblhmeidbjigaaaGreatDoor

/- What Term and Marks answer is told by the document alone; pure. -/
set_option linter.unusedSimpArgs false
set_option linter.unusedVariables false
noncomputable section
namespace Go.Proofs.YtblhmeidbjigaaaGreatDoor
open Go.RowKit Classical

theorem TermAns.one {s : ByteArray} {block place : Int} {t t' : List UInt8} {e e' : Int} (a : TermAns s block place t e) (b : TermAns s block place t' e') : t = t' ∧ e = e' := by
  rcases a with ⟨rfl, rfl, a1⟩ | ⟨p, pg, pt, a1⟩
  · rcases b with ⟨rfl, rfl, _⟩ | ⟨p, pg, pt, _⟩
    · exact ⟨rfl, rfl⟩
    · exact absurd pt (a1 p pg)
  rcases b with ⟨_, _, b1⟩ | ⟨p', pg', pt', b1⟩
  · exact absurd pt (b1 p pg)
  obtain rfl : p = p' := prog_one pg pg' (pt.trans pt'.symm)
  rcases a1 with ⟨rfl, rfl, a1⟩ | ⟨a0, a1⟩
  · rcases b1 with ⟨rfl, rfl, _⟩ | ⟨b0, _⟩
    · exact ⟨rfl, rfl⟩
    · exact absurd b0 a1
  rcases b1 with ⟨_, _, b1⟩ | ⟨_, b1⟩
  · exact absurd a0 b1
  rcases a1 with ⟨rfl, rfl, a1⟩ | ⟨rfl, a1, rfl⟩
  · rcases b1 with ⟨rfl, rfl, _⟩ | ⟨_, b1, _⟩
    · exact ⟨rfl, rfl⟩
    · rw [a1] at b1; cases b1
  · rcases b1 with ⟨_, _, b1⟩ | ⟨rfl, _, rfl⟩
    · rw [a1] at b1; cases b1
    · exact ⟨rfl, rfl⟩

end Go.Proofs.YtblhmeidbjigaaaGreatDoor

/- The reference's marks: in, Marked, Marks. -/
set_option linter.unusedSimpArgs false
set_option linter.unusedVariables false
namespace Go.Proofs.YtblhmeidbjigaaaGreatDoor
open Go.RowKit

/-- Texts as cells. -/
def texts (l : List (List UInt8)) : List Value := l.map fun x => .string (str x)

theorem texts_length (l : List (List UInt8)) : (texts l).length = l.length := by simp [texts]
theorem texts_snoc (l : List (List UInt8)) (s : List UInt8) : texts (l ++ [s]) = texts l ++ [.string (str s)] := by simp [texts]

theorem Tryz.infoStr : (Tryz.prog.info? 9).map (fun i => (i.zero, i.size, i.bytes)) = some (some (.string ⟨#[]⟩), 1, 16) := by kernel_rfl

/-- A list of texts that is read. -/
def RdTexts (w : World) (v : Value) (l : List (List UInt8)) : Prop :=
  ∃ ao cap, v = .slice ao l.length cap ∧ l.length ≤ 9223372036854775807 ∧ ∀ i, i < l.length → ∃ b off, ao = some ⟨b, off, none⟩ ∧ w.cell? ⟨b, off + i, none⟩ = some (.string (str (l.getD i [])))

theorem RdTexts.keep {w w' : World} {v : Value} {l : List (List UInt8)} (h : RdTexts w v l) (hb : Below w.heap.size w w') : RdTexts w' v l := by
  obtain ⟨ao, cap, rfl, hl, hc⟩ := h
  exact ⟨ao, cap, rfl, hl, fun i hi => let ⟨b, off, e, h1⟩ := hc i hi; ⟨b, off, e, cell_keep hb h1⟩⟩

theorem texts_rd {w : World} {B : Nat} {v : Value} {l : List (List UInt8)} (h : w.ownsRow B 9 1 v l.length (texts l)) : RdTexts w v l := by
  obtain ⟨ao, cap, rfl⟩ := owns_slice h
  refine ⟨ao, cap, rfl, owns_le h, fun i hi => ?_⟩
  obtain ⟨b, rfl, _, hb, hc⟩ := owns_cell h rfl (i := i) (by rw [texts_length]; exact hi)
  refine ⟨b, 0, rfl, ?_⟩
  rw [Nat.zero_add, hc]
  simp [texts, List.getD, hi]

theorem str_eq (x y : List UInt8) : ((str x).toList == (str y).toList) = true ↔ x = y := by simp [str]
theorem str_ne {x y : List UInt8} (h : x ≠ y) : ((str x).toList == (str y).toList) = false := by simp [str, h]

theorem tx_new (w : World) (x : Value) (t : TypeId) : ∀ j u, [x][j]? = some u → (w.alloc (.cells #[x] t)).cell? ((⟨w.heap.size, 0, none⟩ : Addr).add j) = some u := by
  intro j u hj
  match j, hj with
  | 0, hj => simp at hj; subst hj; simp [Addr.add]

theorem tx_one (x : ByteArray) : ∀ u ∈ [Value.string x], u.oneCell' = true := by
  intro u hu; simp at hu; subst hu; rfl

theorem marksT_length (regs slots data : Int) (names : List Int) (ops : List OpD) : ∀ k, (marksT regs slots data names ops k).length ≤ k
  | 0 => by simp [marksT]
  | k + 1 => by
    have := marksT_length regs slots data names ops k
    simp only [marksT]
    split
    · simp; omega
    · omega

end Go.Proofs.YtblhmeidbjigaaaGreatDoor

/- The code's state of a block in memory: its terms, its marks; stores into it. -/
set_option linter.unusedSimpArgs false
set_option linter.unusedVariables false
namespace Go.Proofs.YtblhmeidbjigaaaGreatDoor
open Go.RowKit

/-- All stays but the state's own blocks: what lies below B, and from Lo on every block that holds no texts. -/
structure Mv (B Lo : Nat) (w w' : World) : Prop where
  low : Below B w w'
  size : w.heap.size ≤ w'.heap.size
  row : ∀ g ty xs, Lo ≤ g → ty ≠ 9 → Row w g ty xs → Row w' g ty xs

theorem Mv.refl (B Lo : Nat) (w : World) : Mv B Lo w w := ⟨Below.refl _ _, Nat.le_refl _, fun _ _ _ _ _ r => r⟩

theorem Mv.trans {B Lo : Nat} {w a b : World} (h : Mv B Lo w a) (h2 : Mv B Lo a b) : Mv B Lo w b :=
  ⟨h.low.trans h2.low, Nat.le_trans h.size h2.size, fun g ty xs hg ht r => h2.row g ty xs hg ht (h.row g ty xs hg ht r)⟩

theorem Mv.of {B Lo : Nat} {w w' : World} (hb : Below w.heap.size w w') (hB : B ≤ w.heap.size) : Mv B Lo w w' := ⟨hb.mono hB, hb.size, fun _ _ _ _ _ r => r.keep hb⟩

theorem Mv.set {B Lo : Nat} {w a : World} (h : Mv B Lo w a) {g : Nat} (hB : B ≤ g) (hL : g < Lo) (i : Nat) (u : Value) : Mv B Lo w (a.setCell ⟨g, i, none⟩ u) :=
  ⟨⟨h.low.os, h.low.tape, h.low.output, by simpa using h.low.size, fun k hk => (Below.heap_setCell _ _ _ _ (by show k ≠ g; omega)).trans (h.low.block k hk)⟩, by simpa using h.size,
    fun g' ty xs hg ht r => (h.row g' ty xs hg ht r).unset (by show g' ≠ g; omega) u⟩

theorem PartsAt.mv {B Lo : Nat} {w w' : World} {t : TD} {ps : Value} (h : PartsAt Lo w t ps) (hm : Mv B Lo w w') : PartsAt Lo w' t ps := by
  induction t generalizing ps with
  | leaf k n => exact ⟨h.1, Nat.le_trans h.2 hm.size⟩
  | two k a b iha ihb => obtain ⟨g, pa, pb, e, lg, r, h1, h2⟩ := h; exact ⟨g, pa, pb, e, lg, hm.row _ _ _ lg (by decide) r, iha h1, ihb h2⟩
  | three k a b c iha ihb ihc => obtain ⟨g, pa, pb, pc, e, lg, r, h1, h2, h3⟩ := h; exact ⟨g, pa, pb, pc, e, lg, hm.row _ _ _ lg (by decide) r, iha h1, ihb h2, ihc h3⟩

/-- Terms side by side in a block. -/
def PlAt (w : World) (P n : Nat) (f : Nat → TD) (ps : Nat → Value) : Prop :=
  ∃ xs, Row w P 119 xs ∧ n * 5 ≤ xs.length ∧ ∀ i, i < n → ∀ j u, (tcells (f i) (ps i))[j]? = some u → xs[i * 5 + j]? = some u

theorem PlAt.keep {w w' : World} {P n : Nat} {f : Nat → TD} {ps : Nat → Value} (h : PlAt w P n f ps) (hb : Below w.heap.size w w') : PlAt w' P n f ps :=
  let ⟨xs, r, hl, hc⟩ := h
  ⟨xs, r.keep hb, hl, hc⟩

theorem PlAt.cell {w : World} {P n : Nat} {f : Nat → TD} {ps : Nat → Value} (h : PlAt w P n f ps) {i : Nat} (hi : i < n) {j : Nat} {u : Value} (hj : (tcells (f i) (ps i))[j]? = some u) : w.cell? ⟨P, i * 5 + j, none⟩ = some u :=
  let ⟨xs, r, hl, hc⟩ := h
  r.cell (hc i hi j u hj)

theorem PlAt.frozen {w : World} {P n : Nat} {f : Nat → TD} {ps : Nat → Value} (h : PlAt w P n f ps) (i : Nat) : w.frozen? ⟨P, i, none⟩ = false :=
  let ⟨xs, r, hl, hc⟩ := h
  r.frozen i

/-- Five cells of a block are set, from o on. -/
def put5 (w : World) (g o : Nat) (a b c d e : Value) : World :=
  ((((w.setCell ⟨g, o, none⟩ a).setCell ⟨g, o + 1, none⟩ b).setCell ⟨g, o + 2, none⟩ c).setCell ⟨g, o + 3, none⟩ d).setCell ⟨g, o + 4, none⟩ e

def upT (f : Nat → TD) (i : Nat) (t : TD) : Nat → TD := fun k => if k = i then t else f k
def upV (f : Nat → Value) (i : Nat) (t : Value) : Nat → Value := fun k => if k = i then t else f k

/-- A term is laid into a block. -/
def putT (w : World) (g o : Nat) (t : TD) (p : Value) : World := put5 w g o (.int .i64 (ckind t)) (.int .i64 (cval t)) p (.int .i64 t.size) (.string (str (showT t)))

theorem PlAt.put {w : World} {P n : Nat} {f : Nat → TD} {ps : Nat → Value} (h : PlAt w P n f ps) {i : Nat} (hi : i < n) (t : TD) (p : Value) : PlAt (putT w P (i * 5) t p) P n (upT f i t) (upV ps i p) := by
  obtain ⟨xs, r, hl, hc⟩ := h
  refine ⟨_, ((((r.set (i * 5) _).set (i * 5 + 1) _).set (i * 5 + 2) _).set (i * 5 + 3) _).set (i * 5 + 4) _, by simpa using hl, ?_⟩
  intro k hk j u hu
  have hj : j < 5 := by
    have := (List.getElem?_eq_some_iff.1 hu).1
    simpa [tcells] using this
  by_cases e : k = i
  · subst e
    simp only [upT, upV, if_true] at hu
    have h5 : j = 0 ∨ j = 1 ∨ j = 2 ∨ j = 3 ∨ j = 4 := by omega
    have hb : k * 5 + 5 ≤ xs.length := by omega
    rcases h5 with rfl | rfl | rfl | rfl | rfl <;> simp only [tcells, List.getElem?_cons_zero, List.getElem?_cons_succ] at hu <;> simp only [List.getElem?_set, List.length_set] <;>
      simp [hu, show k * 5 + 0 < xs.length by omega, show k * 5 < xs.length by omega, show k * 5 + 1 < xs.length by omega, show k * 5 + 2 < xs.length by omega, show k * 5 + 3 < xs.length by omega, show k * 5 + 4 < xs.length by omega]
  · have h0 := hc k hk j u (by simpa [upT, upV, e] using hu)
    simp only [List.getElem?_set]
    rw [if_neg (by omega), if_neg (by omega), if_neg (by omega), if_neg (by omega), if_neg (by omega)]
    exact h0

theorem PlAt.off {w : World} {P n : Nat} {f : Nat → TD} {ps : Nat → Value} (h : PlAt w P n f ps) {g : Nat} (hg : P ≠ g) (i : Nat) (u : Value) : PlAt (w.setCell ⟨g, i, none⟩ u) P n f ps :=
  let ⟨xs, r, hl, hc⟩ := h
  ⟨xs, r.unset (a := ⟨g, i, none⟩) hg u, hl, hc⟩

theorem row_owns_any {w : World} {H : Nat} {t e : TypeId} {xs ys : List Value} {v : Value} {B sz n : Nat} (hr : Row w H t xs) (h : w.ownsRow B e sz v n ys) (ht : t ≠ e) : v.ownBlock ≠ some H := by
  intro q
  rcases h.2 with ⟨rfl, _⟩ | ⟨k, cap, cur, rfl, _, hh, _⟩
  · simp [Value.ownBlock] at q
  · simp only [Value.ownBlock, Option.some.injEq] at q
    subst q
    unfold Row at hr
    rw [hr] at hh
    simp only [Option.some.injEq, Obj.cells.injEq] at hh
    exact ht hh.2.1

/-- What a state leads to: P its places' block. -/
structure StB (B Lo : Nat) (w : World) (P n : Nat) (f : Nat → TD) (ps : Nat → Value) (c : TD) (pc : Value) (ms : List (List UInt8)) (mv : Value) : Prop where
  pl : PlAt w P n f ps
  parts : ∀ i, i < n → PartsAt Lo w (f i) (ps i)
  pc : PartsAt Lo w c pc
  mrk : w.ownsRow Lo 9 1 mv ms.length (texts ms)
  hP : B ≤ P
  hP' : P < Lo

/-- A state: M its own block. -/
structure StU (B Lo : Nat) (w : World) (M P cap n : Nat) (f : Nat → TD) (ps : Nat → Value) (c : TD) (pc : Value) (ms : List (List UInt8)) (mv : Value) (big : Bool) (regs data : Int) : Prop where
  row : Row w M 121 [.slice (some ⟨P, 0, none⟩) n cap, .int .i64 (ckind c), .int .i64 (cval c), pc, .int .i64 c.size, .string (str (showT c)), mv, .bool big, .int .i64 regs, .int .i64 data]
  b : StB B Lo w P n f ps c pc ms mv
  hM : B ≤ M
  hM' : M < Lo
  ne : P ≠ M

def StAt (B Lo : Nat) (w : World) (M P cap n : Nat) (f : Nat → TD) (c : TD) (ms : List (List UInt8)) (big : Bool) (regs data : Int) : Prop :=
  ∃ ps pc mv, StU B Lo w M P cap n f ps c pc ms mv big regs data

section
variable {B Lo : Nat} {w w' : World} {M P cap n : Nat} {f : Nat → TD} {ps : Nat → Value} {c : TD} {pc : Value} {ms : List (List UInt8)} {mv : Value} {big : Bool} {regs data : Int}

theorem StU.at (h : StU B Lo w M P cap n f ps c pc ms mv big regs data) : StAt B Lo w M P cap n f c ms big regs data := ⟨_, _, _, h⟩

theorem StB.le (h : StB B Lo w P n f ps c pc ms mv) : B ≤ w.heap.size := by
  have := h.pc.lo; have := h.hP; have := h.hP'; omega

theorem StU.le (h : StU B Lo w M P cap n f ps c pc ms mv big regs data) : B ≤ w.heap.size := h.b.le

theorem StB.next (h : StB B Lo w P n f ps c pc ms mv) (hb : Below w.heap.size w w') : StB B Lo w' P n f ps c pc ms mv :=
  ⟨h.pl.keep hb, fun i hi => (h.parts i hi).keep hb, h.pc.keep hb, owns_below h.mrk hb (Nat.le_refl _), h.hP, h.hP'⟩

theorem StU.next (h : StU B Lo w M P cap n f ps c pc ms mv big regs data) (hb : Below w.heap.size w w') : StU B Lo w' M P cap n f ps c pc ms mv big regs data :=
  ⟨h.row.keep hb, h.b.next hb, h.hM, h.hM', h.ne⟩

theorem StAt.next (h : StAt B Lo w M P cap n f c ms big regs data) (hb : Below w.heap.size w w') : StAt B Lo w' M P cap n f c ms big regs data :=
  let ⟨_, _, _, u⟩ := h
  ⟨_, _, _, u.next hb⟩

theorem StB.congr (h : StB B Lo w P n f ps c pc ms mv) {g : Nat → TD} (hg : ∀ i, i < n → f i = g i) : StB B Lo w P n g ps c pc ms mv :=
  let ⟨xs, r, hl, hc⟩ := h.pl
  ⟨⟨xs, r, hl, fun i hi j u hj => hc i hi j u (by rw [hg i hi]; exact hj)⟩, fun i hi => by rw [← hg i hi]; exact h.parts i hi, h.pc, h.mrk, h.hP, h.hP'⟩

theorem StAt.congr (h : StAt B Lo w M P cap n f c ms big regs data) {g : Nat → TD} {c' : TD} {ms' : List (List UInt8)} {big' : Bool} (hg : ∀ i, i < n → f i = g i) (hc : c = c') (hm : ms = ms') (hb : big = big') : StAt B Lo w M P cap n g c' ms' big' regs data := by
  subst hc; subst hm; subst hb
  obtain ⟨ps, pc, mv, u⟩ := h
  exact ⟨ps, pc, mv, u.row, u.b.congr hg, u.hM, u.hM', u.ne⟩

theorem StB.mkne (h : StB B Lo w P n f ps c pc ms mv) {g : Nat} (hg : g < Lo) : mv.ownBlock ≠ some g := by
  intro e
  have := (h.mrk.lt g e).1
  omega

theorem PartsAt.putT {Lo : Nat} {w : World} {t : TD} {ps : Value} (h : PartsAt Lo w t ps) {g : Nat} (hg : g < Lo) (o : Nat) (t' : TD) (p : Value) : PartsAt Lo (putT w g o t' p) t ps :=
  ((((h.under hg _ _).under hg _ _).under hg _ _).under hg _ _).under hg _ _

/-- A term is laid into a place. -/
theorem StU.place (h : StU B Lo w M P cap n f ps c pc ms mv big regs data) {i : Nat} (hi : i < n) {t : TD} {p : Value} (hp : PartsAt Lo w t p) :
    StU B Lo (putT w P (i * 5) t p) M P cap n (upT f i t) (upV ps i p) c pc ms mv big regs data := by
  refine ⟨?_, ⟨h.b.pl.put hi t p, ?_, h.b.pc.putT h.b.hP' _ _ _, ?_, h.b.hP, h.b.hP'⟩, h.hM, h.hM', h.ne⟩
  · exact ((((h.row.unset (a := ⟨P, _, none⟩) (Ne.symm h.ne) _).unset (a := ⟨P, _, none⟩) (Ne.symm h.ne) _).unset (a := ⟨P, _, none⟩) (Ne.symm h.ne) _).unset (a := ⟨P, _, none⟩) (Ne.symm h.ne) _).unset (a := ⟨P, _, none⟩) (Ne.symm h.ne) _
  · intro k hk
    by_cases e : k = i
    · simp only [upT, upV, e, if_true]; exact hp.putT h.b.hP' _ _ _
    · simp only [upT, upV, e, if_false]; exact (h.b.parts k hk).putT h.b.hP' _ _ _
  · have q := h.b.mkne h.b.hP'
    exact owns_unset (owns_unset (owns_unset (owns_unset (owns_unset h.b.mrk q _) q _) q _) q _) q _

/-- The cells' term is laid. -/
theorem StU.cells (h : StU B Lo w M P cap n f ps c pc ms mv big regs data) {t : TD} {p : Value} (hp : PartsAt Lo w t p) :
    StU B Lo (putT w M 1 t p) M P cap n f ps t p ms mv big regs data := by
  refine ⟨((((h.row.set 1 _).set 2 _).set 3 _).set 4 _).set 5 _, ⟨((((h.b.pl.off h.ne _ _).off h.ne _ _).off h.ne _ _).off h.ne _ _).off h.ne _ _, fun i hi => (h.b.parts i hi).putT h.hM' _ _ _, hp.putT h.hM' _ _ _, ?_, h.b.hP, h.b.hP'⟩, h.hM, h.hM', h.ne⟩
  have q := h.b.mkne h.hM'
  exact owns_unset (owns_unset (owns_unset (owns_unset (owns_unset h.b.mrk q _) q _) q _) q _) q _

/-- Big is set. -/
theorem StU.flag (h : StU B Lo w M P cap n f ps c pc ms mv big regs data) (b : Bool) : StU B Lo (w.setCell ⟨M, 7, none⟩ (.bool b)) M P cap n f ps c pc ms mv b regs data :=
  ⟨h.row.set 7 _, ⟨h.b.pl.off h.ne _ _, fun i hi => (h.b.parts i hi).under h.hM' _ _, h.b.pc.under h.hM' _ _, owns_unset h.b.mrk (h.b.mkne h.hM') _, h.b.hP, h.b.hP'⟩, h.hM, h.hM', h.ne⟩

/-- A longer list of marks is set. -/
theorem StU.marks (h : StU B Lo w M P cap n f ps c pc ms mv big regs data) {ms' : List (List UInt8)} {mv' : Value} (hm : w'.ownsRow Lo 9 1 mv' ms'.length (texts ms')) (hg : w.grownBy w' mv.ownBlock) :
    StU B Lo (w'.setCell ⟨M, 6, none⟩ mv') M P cap n f ps c pc ms' mv' big regs data ∧ Mv B Lo w (w'.setCell ⟨M, 6, none⟩ mv') := by
  have hm0 : Mv B Lo w w' := by
    refine ⟨⟨hg.os, hg.tape, hg.output, hg.size, fun k hk => hg.block k (Nat.lt_of_lt_of_le hk h.le) (fun e => ?_)⟩, hg.size, fun g ty xs hl ht r => r.grown hg (fun e => ?_)⟩
    · have := h.b.mkne (g := k) (by have := h.hM; have := h.hM'; omega)
      exact this e.symm
    · exact row_owns_any r h.b.mrk ht e
  have h1 : Row w' M 121 _ := h.row.grown hg (h.b.mkne h.hM')
  have h2 : PlAt w' P n f ps := let ⟨xs, r, hl, hc⟩ := h.b.pl; ⟨xs, r.grown hg (h.b.mkne h.b.hP'), hl, hc⟩
  have q : mv'.ownBlock ≠ some M := fun e => by have := (hm.lt M e).1; have := h.hM'; omega
  exact ⟨⟨h1.set 6 _, ⟨h2.off h.ne _ _, fun i hi => ((h.b.parts i hi).mv hm0).under h.hM' _ _, (h.b.pc.mv hm0).under h.hM' _ _, owns_unset hm q _, h.b.hP, h.b.hP'⟩, h.hM, h.hM', h.ne⟩, hm0.set h.hM h.hM' _ _⟩

theorem Mv.putT {w a : World} (h : Mv B Lo w a) {g : Nat} (hB : B ≤ g) (hL : g < Lo) (o : Nat) (t : TD) (p : Value) : Mv B Lo w (putT a g o t p) :=
  ((((h.set hB hL _ _).set hB hL _ _).set hB hL _ _).set hB hL _ _).set hB hL _ _
end

end Go.Proofs.YtblhmeidbjigaaaGreatDoor

/- A block's marks, step by step, as the code lays them; pure. -/
set_option linter.unusedSimpArgs false
set_option linter.unusedVariables false
noncomputable section
namespace Go.Proofs.YtblhmeidbjigaaaGreatDoor
open Go.RowKit Classical

/-- The mark of a Load or Store at u; []: none is needed. -/
def cellText (data : Int) (u : TD) : List UInt8 :=
  match u.isNum with
  | some n => if 0 ≤ n ∧ n < data then [] else 64 :: 32 :: showT u
  | none => 64 :: 32 :: showT u

/-- The mark of a Div of u by v. -/
def divText (u v : TD) : List UInt8 :=
  match u.isNum, v.isNum with
  | some _, some y => if y ≠ 0 then [] else 47 :: 32 :: (showT u ++ 32 :: showT v)
  | _, _ => 47 :: 32 :: (showT u ++ 32 :: showT v)

def opMarkT (data : Int) (was : Int → TD) (o : OpD) : List UInt8 :=
  if o.kind = 11 then divText (was o.b) (was o.c) else if o.kind = 12 then cellText data (was o.b) else if o.kind = 13 then cellText data (was o.a) else []

def laidMark (ms : List (List UInt8)) (s : List UInt8) : List (List UInt8) := if s ≠ [] ∧ s ∉ ms then ms ++ [s] else ms

theorem laid_nil (ms : List (List UInt8)) : laidMark ms [] = ms := by simp [laidMark]
theorem laid_in {ms : List (List UInt8)} {s : List UInt8} (h : s ∈ ms) : laidMark ms s = ms := by simp [laidMark, h]
theorem laid_new {ms : List (List UInt8)} {s : List UInt8} (hn : s ≠ []) (h : s ∉ ms) : laidMark ms s = ms ++ [s] := by simp [laidMark, h, hn]
theorem marks_step (regs slots data : Int) (names : List Int) (ops : List OpD) (k : Nat) :
    marksT regs slots data names ops (k + 1) = laidMark (marksT regs slots data names ops k) (opMarkT data (behindT regs slots names ops k) (ops.getD k oz)) := by
  have e : markT regs slots data names ops k = opMarkT data (behindT regs slots names ops k) (ops.getD k oz) := by
    unfold markT opMarkT
    by_cases h1 : (ops.getD k oz).kind = 11
    · simp only [h1, if_true]; rfl
    · by_cases h2 : (ops.getD k oz).kind = 12
      · simp only [h2, if_true, if_neg (show ¬ ((12 : Int) = 11) by omega), true_or]; rfl
      · by_cases h3 : (ops.getD k oz).kind = 13
        · simp only [h3, if_true, if_neg (show ¬ ((13 : Int) = 11) by omega), if_neg (show ¬ ((13 : Int) = 12) by omega), or_true]; rfl
        · simp only [h1, h2, h3, if_false, or_self]
  show (if markT regs slots data names ops k ≠ [] ∧ markT regs slots data names ops k ∉ marksT regs slots data names ops k then _ else _) = _
  rw [e]
  rfl

end Go.Proofs.YtblhmeidbjigaaaGreatDoor

/- The code's marks: mark, markCell, markDiv. -/
set_option linter.unusedSimpArgs false
set_option linter.unusedVariables false
namespace Go.Proofs.YtblhmeidbjigaaaGreatDoor
open Go.RowKit

set_option maxRecDepth 100000 in
set_option maxHeartbeats 2000000 in
theorem cMark_cps {B Lo : Nat} {w : World} {M P cap n : Nat} {f : Nat → TD} {c : TD} {ms : List (List UInt8)} {big : Bool} {regs data : Int} (h : StAt B Lo w M P cap n f c ms big regs data) (t : List UInt8) (ht : t ≠ []) (hl : ms.length ≤ 1000) (Post : Ending → World → Prop)
    (hp : ∀ w', StAt B Lo w' M P cap n f c (laidMark ms t) big regs data → Mv B Lo w w' → Post (.returned (.tuple #[])) w') :
    Calls Tryz.prog 194 #[.pointer (some ⟨M, 0, none⟩), .string (str t)] w Post := by
  obtain ⟨ps, pc, mv, U⟩ := h
  obtain ⟨i0, ii, iz0, iz1, iz2⟩ := info_parts Tryz.infoStr
  obtain ⟨mo, mc, rfl⟩ := owns_slice U.b.mrk
  obtain ⟨ao, cp, e0, hll, hc⟩ := texts_rd U.b.mrk
  simp only [Value.slice.injEq, true_and] at e0
  obtain ⟨rfl, rfl⟩ := e0
  have m6 := U.row.cell (i := 6) rfl
  have hal := (Below.refl w.heap.size w).alloc (Nat.le_refl _) (.cells #[.string (str t)] 9)
  have U0 := U.next hal
  have m6' := U0.row.cell (i := 6) rfl
  have HU := Lib.hid U
  have HU0 := Lib.hid U0
  have HP := Lib.hid hp
  have HT := Lib.hid ht
  have hlo : Lo ≤ w.heap.size := U.b.pc.lo
  have HO := Lib.hid U0.b.mrk
  clear hp U U0 ht hal
  go_enter Tryz.func194, Tryz.ntmps194
  go_wp2
  go_loopw [4] (fun i wr => wr = w ∧ ∃ (k : Nat), k ≤ ms.length ∧ i = .int .i64 k ∧ Hid (∀ j, j < k → ms.getD j [] ≠ t))
    (fun i _ => ms.length - (intOf i).toNat)
  case atStart => exact ⟨rfl, 0, Nat.zero_le _, rfl, fun j hj => by omega⟩
  case round =>
    obtain ⟨rfl, k, hk, rfl, hno⟩ := hrel
    by_cases hlt : k < ms.length
    · obtain ⟨b, off, rfl, h1⟩ := hc k hlt
      have hki : (0 : Int) ≤ (k : Int) := by omega
      have hkj : (k : Int) < (ms.length : Int) := by omega
      by_cases he : ms.getD k [] = t
      · have h2 := (str_eq (ms.getD k []) t).2 he
        have hm : t ∈ ms := by rw [← he]; exact getD_mem' hlt
        have HF := Lib.hid (HP.out _ (by rw [laid_in hm]; exact HU.out.at) (Mv.refl _ _ _))
        have HE := Lib.hid he
        clear hno he hm HP HU HU0 HO
        generalize ms.getD k [] = x at *
        go_wp2
        go_end0
        exact HF.out
      · have h2 := str_ne he
        have hno2 : Hid (∀ j, j < k + 1 → ms.getD j [] ≠ t) := fun j hj => by
          by_cases e : j = k
          · subst e; exact he
          · exact hno.out j (by omega)
        clear hno he
        generalize ms.getD k [] = x at *
        go_wp2
        go_roundw
        case rel => exact ⟨by first | rfl | trivial, k + 1, by omega, by go_num, hno2⟩
        case measure => simp [intOf]; omega
    · obtain rfl : k = ms.length := by omega
      have hm : t ∉ ms := by
        intro hm
        obtain ⟨j, hj, e⟩ := List.getElem_of_mem hm
        exact hno.out j hj (by simp [List.getD, hj, e])
      have HQ := Lib.hid (fun w' => HP.out w')
      rw [laid_new HT.out hm] at HQ
      clear hno hc HP hm
      go_wp2_with (at_builtin; refine wpList_append_own _ rfl _ _ 26 rfl Lo 9 i0 (.string ⟨#[]⟩) 1 16 Tryz.underlying26 ii iz0 iz1 iz2 rfl (by decide) _ _ _ rfl HO.out ⟨wr.heap.size, 0, none⟩ 1 1 [.string (str t)] rfl rfl ?c1 (tx_one _) ?c3 ?c4 ?c5 ?_)
      case c1 => exact tx_new wr _ _
      case c3 => unfold maxLen; omega
      case c4 => omega
      case c5 => simp; omega
      intro v' w4 hown' hgrow _
      rw [← texts_snoc] at hown'
      obtain ⟨U5, v5⟩ := HU0.out.marks (ms' := ms ++ [t]) (by simpa using hown') hgrow
      have mv0 : Mv B Lo wr (wr.alloc (.cells #[.string (str t)] 9)) := Mv.of ((Below.refl wr.heap.size wr).alloc (Nat.le_refl _) _) HU.out.le
      have HF := Lib.hid (HQ.out _ U5.at (mv0.trans v5))
      have r4 : Row w4 M 121 _ := HU0.out.row.grown hgrow (HU0.out.b.mkne HU0.out.hM')
      have y6 := r4.cell (i := 6) rfl
      have yf := r4.frozen 6
      obtain ⟨lo', lc', rfl⟩ := owns_slice hown'
      clear hgrow hown' U5 v5 mv0 r4 HQ HU HU0 HO
      go_wp2
      go_end0
      exact HF.out

theorem cellText_idle {data : Int} {u : TD} (h : u.isNum.isSome = true ∧ 0 ≤ numOf u ∧ numOf u < data) : cellText data u = [] := by
  obtain ⟨k, hk⟩ := Option.isSome_iff_exists.1 h.1
  have e : numOf u = k := by simp [numOf, hk]
  rw [e] at h
  simp [cellText, hk, h.2]

theorem cellText_else {data : Int} {u : TD} (h : ¬ (u.isNum.isSome = true ∧ 0 ≤ numOf u ∧ numOf u < data)) : cellText data u = 64 :: 32 :: showT u := by
  cases hk : u.isNum with
  | none => simp [cellText, hk]
  | some k =>
    have e : numOf u = k := by simp [numOf, hk]
    rw [e, hk] at h
    simp only [cellText, hk]
    rw [if_neg (fun q => h ⟨rfl, q⟩)]

set_option maxRecDepth 100000 in
set_option maxHeartbeats 2000000 in
theorem cMarkCell_cps {B Lo : Nat} {w : World} {M P cap n : Nat} {f : Nat → TD} {c : TD} {ms : List (List UInt8)} {big : Bool} {regs data : Int} (h : StAt B Lo w M P cap n f c ms big regs data) (u : TD) (pu : Value) (fu : u.fine) (su : u.size ≤ 1000000000) (hl : ms.length ≤ 1000) (Post : Ending → World → Prop)
    (hp : ∀ w', StAt B Lo w' M P cap n f c (laidMark ms (cellText data u)) big regs data → Mv B Lo w w' → Post (.returned (.tuple #[])) w') :
    Calls Tryz.prog 183 #[.pointer (some ⟨M, 0, none⟩), termV u pu] w Post := by
  have hle : B ≤ w.heap.size := let ⟨_, _, _, U⟩ := h; U.le
  have b0 : Below w.heap.size w (w.alloc (.cells #[.int .i64 (ckind u), .int .i64 (cval u), pu, .int .i64 u.size, .string (str (showT u))] 119)) := (Below.refl _ _).alloc (Nat.le_refl _) _
  have H0 := Lib.hid (h.next b0)
  have r0 : Row (w.alloc (.cells #[.int .i64 (ckind u), .int .i64 (cval u), pu, .int .i64 u.size, .string (str (showT u))] 119)) w.heap.size 119 (tcells u pu) := heap_alloc_new w _
  have q1 := cNum_any fu pu (w.alloc (.cells #[.int .i64 (ckind u), .int .i64 (cval u), pu, .int .i64 u.size, .string (str (showT u))] 119))
  have y1 := show_size fu (by omega)
  have HB := Lib.hid b0
  have HR := Lib.hid r0
  have HP := Lib.hid hp
  unfold termV at q1 ⊢
  clear h hp b0 r0
  go_enter Tryz.func183, Tryz.ntmps183
  go_wp2_with fail
  refine q1.mono ?_
  rintro e w1 ⟨rfl, b1⟩
  have h1 := HB.out.trans (b1.mono HB.out.size)
  have H1 := Lib.hid (H0.out.next b1)
  have r1 := HR.out.keep b1
  have d0 : w1.cell? ⟨M, 9, none⟩ = some (.int .i64 data) := let ⟨_, _, _, U⟩ := H1.out; U.row.cell (i := 9) rfl
  have HM : Hid (Mv B Lo w w1) := Mv.of h1 hle
  clear q1 H0 HB HR b1 h1
  by_cases hc : u.isNum.isSome = true ∧ 0 ≤ numOf u ∧ numOf u < data
  · have HF := Lib.hid (HP.out w1 (by rw [cellText_idle hc, laid_nil]; exact H1.out) HM.out)
    obtain ⟨c1, c2, c3⟩ := hc
    rw [c1]
    clear HP H1 HM
    go_wp2
    go_end0
    exact HF.out
  · have HQ := Lib.hid HP.out
    rw [cellText_else hc] at HQ
    have q2 := cText_any (ckind u) (cval u) u.size pu (str (showT u)) w1
    have hs : Hid (str (64 :: 32 :: showT u) = str [64, 32] ++ str (showT u)) := by show _ = _; rw [str_append]; rfl
    have z2 : (str [64, 32]).size = 2 := rfl
    have a0 := r1.cell (i := 0) rfl
    have a1 := r1.cell (i := 1) rfl
    have a2 := r1.cell (i := 2) rfl
    have a3 := r1.cell (i := 3) rfl
    have a4 := r1.cell (i := 4) rfl
    have h3 : u.isNum.isSome = false ∨ (u.isNum.isSome = true ∧ numOf u < 0) ∨ (u.isNum.isSome = true ∧ 0 ≤ numOf u ∧ data ≤ numOf u) := by
      cases hz : u.isNum.isSome with
      | false => exact .inl rfl
      | true =>
        rw [hz] at hc
        by_cases h0 : numOf u < 0
        · exact .inr (.inl ⟨rfl, h0⟩)
        · exact .inr (.inr ⟨rfl, by omega, by have : ¬ (0 ≤ numOf u ∧ numOf u < data) := fun q => hc ⟨rfl, q⟩; omega⟩)
    clear hc HP r1
    generalize numOf u = nu at *
    generalize u.isNum.isSome = zu at *
    rcases h3 with rfl | ⟨rfl, hn⟩ | ⟨rfl, hn, hd⟩
    all_goals
      go_wp2_with fail
      refine q2.mono ?_
      rintro e w2 ⟨rfl, b2⟩
      have H2 := Lib.hid (H1.out.next b2)
      have HM2 : Hid (Mv B Lo w w2) := HM.out.trans (Mv.of b2 (Nat.le_trans hle HM.out.size))
      have q3 := fun P' => cMark_cps H2.out (64 :: 32 :: showT u) (by simp) hl P'
      rw [hs.out] at q3
      clear q2 H1 HM b2 a0 a1 a2 a3 a4 d0
      go_wp2_with fail
      refine q3 _ ?_
      intro w3 h3 m3
      have HF := Lib.hid (HQ.out w3 h3 (HM2.out.trans m3))
      clear q3 HQ HM2 H2 h3 m3
      go_wp2
      go_end0
      exact HF.out

end Go.Proofs.YtblhmeidbjigaaaGreatDoor
