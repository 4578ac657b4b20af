/- text and hintText of twinkeep. -/
import Derived.Test.YtdjdjkgoelbbdaaPLawLToKSamH
import Derived.Test.YtdjdjkgoelbbdaaPStoJoined
set_option linter.unusedSimpArgs false
set_option linter.unusedVariables false
namespace Go.Proofs.Ytdjdjkgoelbbdaa
open Go.RowKit

theorem progText_small {p : ProgD} (hg : progGood p = true) : (str (progText p)).size ≤ maxLen := by
  have := progTo_size hg p.blocks.length
  rw [progTo_end (Nat.le_refl _)] at this
  unfold maxLen
  omega

set_option maxRecDepth 100000 in
set_option maxHeartbeats 2000000 in
theorem kText_any (a0 a1 a2 a3 : Int) (v : Value) (l : List BlockD) (w : World) (hr : RdBlocks w v l) (hg : progGood ⟨a0, a1, a2, a3, l⟩ = true) :
    Calls Try.prog 15 #[.agg #[.int .i64 a0, .int .i64 a1, .int .i64 a2, .int .i64 a3, v]] w fun e w' => e = .returned (.tuple #[.string (str (progText ⟨a0, a1, a2, a3, l⟩)), .bool true]) ∧ Below w.heap.size w w' := by
  obtain ⟨uo, uc, e0, _, _⟩ := id hr
  subst e0
  have hsz := progText_small hg
  have hone : Hid (∀ b0 b1 b2 b3 l2, progGood ⟨b0, b1, b2, b3, l2⟩ = true → str (progText ⟨b0, b1, b2, b3, l2⟩) = str (progText ⟨a0, a1, a2, a3, l⟩) → b0 = a0 ∧ b1 = a1 ∧ b2 = a2 ∧ b3 = a3 ∧ l2 = l) := by
    intro b0 b1 b2 b3 l2 h1 h2
    have := prog_one h1 hg h2
    simpa using this
  have hself : Hid (¬ ∀ p, progGood p = true → str (progText p) ≠ str (progText ⟨a0, a1, a2, a3, l⟩)) := fun h => h _ hg rfl
  have hbU : Below w.heap.size w (w.alloc (.cells #[.int .i64 a0, .int .i64 a1, .int .i64 a2, .int .i64 a3, .slice uo l.length uc] 24)) := (Below.refl w.heap.size w).alloc (Nat.le_refl _) _
  have WU : Row (w.alloc (.cells #[.int .i64 a0, .int .i64 a1, .int .i64 a2, .int .i64 a3, .slice uo l.length uc] 24)) w.heap.size 24 [.int .i64 a0, .int .i64 a1, .int .i64 a2, .int .i64 a3, .slice uo l.length uc] := heap_alloc_new w _
  have hc := tEncode_any ⟨a0, a1, a2, a3, l⟩ _ _ (hr.keep hbU)
  rw [if_pos hg] at hc
  simp only [progV] at hc
  generalize str (progText ⟨a0, a1, a2, a3, l⟩) = T at *
  clear hg
  go_enter Try.func15, Try.ntmps15
  go_wp2_with fail
  refine hc.mono ?_
  clear hc
  rintro e w1 ⟨rfl, hb1⟩
  have VU := WU.keep hb1
  have hb1' : Below (w.heap.size + 1) (w.alloc (.cells #[.int .i64 a0, .int .i64 a1, .int .i64 a2, .int .i64 a3, .slice uo l.length uc] 24)) w1 := by simpa using hb1
  have hb01 := Below.under hb1'
  have hz1 := hb1'.size
  simp at hz1
  clear hb1 hb1' WU hbU
  go_wp2_with fail
  refine tDecode_cps T _ hsz _ ?_ ?_
  · intro b0 b1 b2 b3 l2 v2 bv w2 own hd hg2 ht hb2
    obtain ⟨rfl, rfl, rfl, rfl, rfl⟩ := hone.out b0 b1 b2 b3 l2 hg2 ht
    obtain ⟨ao, cp, rfl⟩ := owns_slice own.row
    have VU2 := VU.keep hb2
    have hb02 := hb01.trans (hb2.mono (by omega))
    have hz2 := hb2.size
    have hbA : Below w2.heap.size w2 (w2.alloc (.cells #[.int .i64 b0, .int .i64 b1, .int .i64 b2, .int .i64 b3, .slice ao bv.length cp] 24)) := (Below.refl _ _).alloc (Nat.le_refl _) _
    have rd1 := (hr.keep hb02).keep hbA
    have rd2 := own.rd.keep hbA
    rw [hd] at rd2
    have hzl : w.heap.size < w2.heap.size := by omega
    have x0 := VU2.cell (i := 0) rfl
    have x1 := VU2.cell (i := 1) rfl
    have x2 := VU2.cell (i := 2) rfl
    have x3 := VU2.cell (i := 3) rfl
    have x4 := VU2.cell (i := 4) rfl
    clear hone hself hg2 ht own
    go_wp2_with fail
    refine (kSameProg_any b0 b1 b2 b3 _ _ _ _ rd1 rd2).mono ?_
    rintro e w3 ⟨rfl, hb3⟩
    have hb03 : Below w.heap.size w w3 := (hb02.trans (hbA.mono (by omega))).trans (hb3.mono (by simp; omega))
    clear x0 x1 x2 x3 x4
    go_wp2
    go_ret2
    exact ⟨by simp, hb03⟩
  · intro w2 hn _
    exact absurd hn hself.out

theorem hintText_small {h : List PingD} (hg : goodHint h = true) : (str (hintText h)).size ≤ maxLen := by
  have := hintTo_size hg h.length
  rw [hintTo_end (Nat.le_refl _)] at this
  unfold maxLen
  omega

set_option maxRecDepth 100000 in
set_option maxHeartbeats 2000000 in
theorem kHintText_any (v : Value) (h : List PingD) (w : World) (hr : RdHint w v h) (hg : goodHint h = true) :
    Calls Try.prog 17 #[.agg #[v]] w fun e w' => e = .returned (.tuple #[.string (str (hintText h)), .bool true]) ∧ Below w.heap.size w w' := by
  obtain ⟨uo, uc, e0, _, _⟩ := id hr
  subst e0
  have hsz := hintText_small hg
  have hone : Hid (∀ g, goodHint g = true → str (hintText g) = str (hintText h) → g = h) := fun g h1 h2 => hint_one h1 hg h2
  have hself : Hid (¬ ∀ g, goodHint g = true → str (hintText g) ≠ str (hintText h)) := fun k => k _ hg rfl
  have hbU : Below w.heap.size w (w.alloc (.cells #[.slice uo h.length uc] 31)) := (Below.refl w.heap.size w).alloc (Nat.le_refl _) _
  have WU : Row (w.alloc (.cells #[.slice uo h.length uc] 31)) w.heap.size 31 [.slice uo h.length uc] := heap_alloc_new w _
  have hc := tEncodeHint_any _ h _ (hr.keep hbU)
  rw [if_pos hg] at hc
  generalize str (hintText h) = T at *
  clear hg
  go_enter Try.func17, Try.ntmps17
  go_wp2_with fail
  refine hc.mono ?_
  clear hc
  rintro e w1 ⟨rfl, hb1⟩
  have VU := WU.keep hb1
  have hb1' : Below (w.heap.size + 1) (w.alloc (.cells #[.slice uo h.length uc] 31)) w1 := by simpa using hb1
  have hb01 := Below.under hb1'
  have hz1 := hb1'.size
  simp at hz1
  clear hb1 hb1' WU hbU
  go_wp2_with fail
  refine (tDecodeHint_any T _ hsz).mono ?_
  rintro e w2 ⟨hor, hb2⟩
  rcases hor with ⟨v2, hv, rfl, own, hg2, ht⟩ | ⟨hn, rfl⟩
  case inr => exact absurd hn hself.out
  have hd := hone.out _ hg2 ht
  obtain ⟨ao, cp, rfl⟩ := owns_slice own.row
  have VU2 := VU.keep hb2
  have hb02 := hb01.trans (hb2.mono (by omega))
  have hz2 := hb2.size
  have hbA : Below w2.heap.size w2 (w2.alloc (.cells #[.slice ao hv.length cp] 31)) := (Below.refl _ _).alloc (Nat.le_refl _) _
  have rd1 := (hr.keep hb02).keep hbA
  have rd2 := own.rd.keep hbA
  rw [hd] at rd2
  have hzl : w.heap.size < w2.heap.size := by omega
  have x0 := VU2.cell (i := 0) rfl
  clear hone hself hg2 ht own
  go_wp2_with fail
  refine (kSameHint_any _ _ _ _ rd1 rd2).mono ?_
  rintro e w3 ⟨rfl, hb3⟩
  have hb03 : Below w.heap.size w w3 := (hb02.trans (hbA.mono (by omega))).trans (hb3.mono (by simp; omega))
  clear x0
  go_wp2
  go_ret2
  exact ⟨by simp, hb03⟩

end Go.Proofs.Ytdjdjkgoelbbdaa

/- Raw numbers, read one after the other. -/
set_option linter.unusedSimpArgs false
set_option linter.unusedVariables false
namespace Go.Proofs.Ytdjdjkgoelbbdaa
open Go.RowKit

set_option maxHeartbeats 400000 in
theorem pick_any (c n : Int) (w : World) (hc : -9223372036854775808 ≤ c ∧ c ≤ 9223372036854775807) (hn : 1 ≤ n ∧ n ≤ 1000) (Post : Ending → World → Prop)
    (hp : ∀ x, 0 ≤ x → x < n → Post (.returned (.int .i64 x)) w) : Calls Try.prog 25 #[.int .i64 c, .int .i64 n] w Post := by
  by_cases h0 : c < 0
  · have hx := hp ((-(c + 1)).tmod n) (Int.tmod_nonneg _ (by omega)) (by rw [Int.tmod_eq_emod_of_nonneg (by omega)]; exact Int.emod_lt_of_pos _ (by omega))
    rw [Int.neg_tmod] at hx
    clear hp
    go_enter Try.func25, Try.ntmps25
    go_wp2
    exact hx
  · have hx := hp (c % n) (Int.emod_nonneg _ (by omega)) (Int.emod_lt_of_pos _ (by omega))
    clear hp
    go_enter Try.func25, Try.ntmps25
    go_wp2
    exact hx

/-- A list of numbers that is read. -/
def RdInts (w : World) (v : Value) (n : Nat) : Prop :=
  ∃ ao cap, v = .slice ao n cap ∧ n ≤ 9223372036854775807 ∧ ∀ i, i < n → ∃ b off x, ao = some ⟨b, off, none⟩ ∧ -9223372036854775808 ≤ x ∧ x ≤ 9223372036854775807 ∧ w.cell? ⟨b, off + i, none⟩ = some (.int .i64 x)

/-- The rolls at block R, over a list of n numbers that lies elsewhere. -/
structure Rolls (w : World) (R : Nat) (ao : Option Addr) (n cap k : Nat) : Prop where
  row : Row w R 103 [.slice ao n cap, .int .i64 k]
  le : k ≤ n
  rd : RdInts w (.slice ao n cap) n
  off : 0 < n → ∀ b o, ao = some ⟨b, o, none⟩ → b ≠ R

theorem Rolls.keep {w w' : World} {R : Nat} {ao : Option Addr} {n cap k : Nat} (h : Rolls w R ao n cap k) (hb : Below w.heap.size w w') : Rolls w' R ao n cap k := by
  refine ⟨h.row.keep hb, h.le, ?_, h.off⟩
  obtain ⟨ao', cap', e, hn, hc⟩ := h.rd
  exact ⟨ao', cap', e, hn, fun i hi => let ⟨b, off, x, e1, h1, h2, h3⟩ := hc i hi; ⟨b, off, x, e1, h1, h2, cell_keep hb h3⟩⟩

theorem rd_away {w : World} {R : Nat} {ao : Option Addr} {n cap i : Nat} (h : RdInts w (.slice ao n cap) n) (hoff : 0 < n → ∀ b o, ao = some ⟨b, o, none⟩ → b ≠ R) (u : Value) : RdInts (w.setCell ⟨R, i, none⟩ u) (.slice ao n cap) n := by
  obtain ⟨ao', cap', e, hn, hc⟩ := h
  simp only [Value.slice.injEq, true_and] at e
  obtain ⟨rfl, rfl⟩ := e
  refine ⟨ao, cap, rfl, hn, fun i hi => ?_⟩
  obtain ⟨b, off, x, e1, h1, h2, h3⟩ := hc i hi
  exact ⟨b, off, x, e1, h1, h2, cell_unset (fun e => hoff (by omega) b off e1 (by simp at e; exact e.1.symm)) h3⟩

set_option maxRecDepth 100000 in
set_option maxHeartbeats 2000000 in
theorem next_cps (R : Nat) (ao : Option Addr) (n cap k : Nat) (m : Int) (w : World) (h : Rolls w R ao n cap k) (hm : 1 ≤ m ∧ m ≤ 1000) (Post : Ending → World → Prop)
    (hp : ∀ x k' w', 0 ≤ x → x < m → Rolls w' R ao n cap k' → Keep (fun g => g = R) w w' → w'.heap.size = w.heap.size → Post (.returned (.int .i64 x)) w') :
    Calls Try.prog 52 #[.pointer (some ⟨R, 0, none⟩), .int .i64 m] w Post := by
  have hle := h.le
  have hrow := h.row
  have x0 := hrow.cell (i := 0) rfl
  have x1 := hrow.cell (i := 1) rfl
  have xf := hrow.frozen 1
  obtain ⟨ao', cap', e, hn, hc⟩ := h.rd
  simp only [Value.slice.injEq, true_and] at e
  obtain ⟨rfl, rfl⟩ := e
  have hd : ∀ d, Rolls (w.drewN d) R ao n cap k := fun d => h.keep (below_drewN (Below.refl _ _) d)
  have hkd : ∀ d, Keep (fun g => g = R) w (w.drewN d) := fun d => (Keep.refl _ _).below (below_drewN (Below.refl w.heap.size w) d) (Nat.le_refl _)
  by_cases hlt : k < n
  · obtain ⟨b, off, x, rfl, hx1, hx2, hx3⟩ := hc k hlt
    have hbR := h.off (by omega) b off rfl
    have hp' : Hid (∀ y d, 0 ≤ y → y < m → Post (.returned (.int .i64 y)) ((w.drewN d).setCell ⟨R, 1, none⟩ (.int .i64 ((k : Int) + 1)))) := by
      intro y d h1 h2
      refine hp y (k + 1) _ h1 h2 ⟨?_, by omega, ?_, (hd d).off⟩ ((hkd d).setCell (.inl rfl) _) (by simp)
      · have := (hd d).row.set 1 (.int .i64 ((k + 1 : Nat) : Int))
        simpa using this
      · exact rd_away (hd d).rd (hd d).off _
    clear hp hd hkd hc
    go_enter Try.func52, Try.ntmps52
    go_wp2
    go_quiet (fail)
    go_wp2
    go_quiet (fail)
    go_wp2_with fail
    refine pick_any _ _ _ ⟨hx1, hx2⟩ hm _ ?_
    intro y h1 h2
    go_wp2
    exact hp'.out y _ h1 h2
  · have hp' : Hid (∀ y d, 0 ≤ y → y < m → Post (.returned (.int .i64 y)) (w.drewN d)) := fun y d h1 h2 => hp y k _ h1 h2 (hd d) (hkd d) (by simp)
    clear hp hd hkd hc
    go_enter Try.func52, Try.ntmps52
    go_wp2
    go_quiet (fail)
    go_wp2_with fail
    refine pick_any _ _ _ (by omega) hm _ ?_
    intro y h1 h2
    go_wp2
    exact hp'.out y _ h1 h2

end Go.Proofs.Ytdjdjkgoelbbdaa

/- Writing behind the end of a program's lists. -/
set_option linter.unusedSimpArgs false
set_option linter.unusedVariables false
namespace Go.Proofs.Ytdjdjkgoelbbdaa
open Go.RowKit

set_option maxRecDepth 100000 in
set_option maxHeartbeats 2000000 in
theorem behindProg_any (a0 a1 a2 a3 : Int) (v : Value) (hv : List (BlockD × Value)) (w : World) (base : Nat) (hown : OwnBlocks w base v hv) (hbs : base ≤ w.heap.size) (hl : hv.length ≤ 1000) (hl2 : ∀ x ∈ hv, x.1.ops.length ≤ 1000)
    (S : Nat → Prop) (hSv : ∀ g, v.ownBlock = some g → S g) (hSx : ∀ x ∈ hv, ∀ g, x.2.ownBlock = some g → S g) :
    Calls Try.prog 42 #[.agg #[.int .i64 a0, .int .i64 a1, .int .i64 a2, .int .i64 a3, v]] w fun e w' => e = .returned (.tuple #[]) ∧ OwnBlocks w' base v hv ∧ Keep S w w' := by
  obtain ⟨i0, ii, iz0, iz1, iz2⟩ := info_parts Try.infoBlk
  obtain ⟨j0, ji, jz0, jz1, jz2⟩ := info_parts Try.infoOp
  obtain ⟨ao, cap, rfl⟩ := owns_slice hown.row
  have hrd := hown.rd
  go_enter Try.func42, Try.ntmps42
  go_wp2
  go_loopw [2] (fun i wr => ∃ (k : Nat), k ≤ hv.length ∧ i = .int .i64 k ∧ OwnBlocks wr base (.slice ao hv.length cap) hv ∧ wr.cell? ⟨w.heap.size, 4, none⟩ = some (.slice ao hv.length cap) ∧ Keep S w wr ∧ w.heap.size + 1 ≤ wr.heap.size)
    (fun i _ => hv.length - (intOf i).toNat)
  case atStart => exact ⟨0, Nat.zero_le _, rfl, hown.alloc _, by simp, (Keep.refl _ _).alloc _, by simp⟩
  case round =>
    obtain ⟨k, hk, rfl, ho, hx0, hbel, hz⟩ := hrel
    by_cases hlt : k < hv.length
    case neg =>
      obtain ⟨wo, hwo⟩ : ∃ wo, wo = wr := ⟨_, rfl⟩
      subst hwo
      go_wp2
      go_loopw [5, 6] (fun l i w2 => ∃ (j : Nat), j ≤ 9 ∧ i = .int .i64 j ∧ OwnBlocks w2 base (.slice ao hv.length cap) hv ∧ w2.ownsRow base 76 5 l (hv.length + j) (blkCells hv ++ pad [.slice none 0 0, .int .i64 0, .int .i64 0, .int .i64 0, .int .i64 0] j) ∧ Hid (∀ g, l.ownBlock = some g → S g ∨ w.heap.size ≤ g) ∧ Keep S w w2 ∧ w.heap.size + 1 ≤ w2.heap.size)
        (fun _ i _ => 9 - (intOf i).toNat)
      case atStart => exact ⟨0, Nat.zero_le _, rfl, ho, by simpa [pad] using ho.row, fun g hg => .inl (hSv g hg), hbel, hz⟩
      case round =>
        obtain ⟨j, hj, rfl, ho2, hrow, hlb, hbin, hz2⟩ := hrel
        obtain ⟨lo, lc, rfl⟩ := owns_slice hrow
        by_cases hjl : j < 9
        · have HP : Hid (pad [.slice none 0 0, .int .i64 0, .int .i64 0, .int .i64 0, .int .i64 0] (j + 1) = pad [.slice none 0 0, .int .i64 0, .int .i64 0, .int .i64 0, .int .i64 0] j ++ [.slice none 0 0, .int .i64 0, .int .i64 0, .int .i64 0, .int .i64 0]) := rfl
          go_wp2_with (at_builtin; refine wpList_append_stay _ rfl _ _ 22 rfl base 76 i0 (.agg #[.slice none 0 0, .int .i64 0, .int .i64 0, .int .i64 0, .int .i64 0]) 5 56 Try.underlying22 ii iz0 iz1 iz2 rfl (by decide) _ _ _ rfl (hrow.alloc _) ⟨wr.heap.size, 0, none⟩ 1 1 [.slice none 0 0, .int .i64 0, .int .i64 0, .int .i64 0, .int .i64 0] rfl rfl (five_new wr _ _ _ _ _ _) ?d2 ?d3 ?d4 ?d5 (by decide) ?_)
          case d2 => first | exact ⟨rfl, rfl, rfl, rfl, rfl⟩ | exact five_one | (intro u hu; simp at hu; rcases hu with rfl | rfl <;> rfl)
          case d3 => unfold maxLen; omega
          case d4 => omega
          case d5 => first | omega | (simp; omega)
          intro v' w2 hrow' hgrow hstay hfr
          try rw [List.append_assoc] at hrow'
          rw [← HP.out] at hrow'
          have ho3 := (ho2.alloc _).appOut (hrow.alloc _) (fun g _ _ => ⟨_, rfl⟩) hgrow hstay
          have hb3 := (hbin.alloc _).grown hgrow hlb.out
          have hlb' : Hid (∀ g, v'.ownBlock = some g → S g ∨ w.heap.size ≤ g) := fun g hg => by
            rcases hfr g hg with e | e
            · exact hlb.out g e
            · exact .inr (by omega)
          have hz3 := hgrow.size
          simp at hz3
          obtain ⟨lo', lc', rfl⟩ := owns_slice hrow'
          clear hgrow hstay hfr hrow ho2 hbin
          go_wp2
          go_roundw
          case rel => exact ⟨j + 1, by omega, by go_num, ho3, hrow', hlb', hb3, by omega⟩
          case measure => simp [intOf]; omega
        · go_wp2
          go_end0
          exact ⟨rfl, ho2, hbin⟩
    obtain ⟨wo, hwo⟩ : ∃ wo, wo = wr := ⟨_, rfl⟩
    subst hwo
    obtain ⟨b, rfl, hbb, c0, c1, c2, c3, c4, cf⟩ := ownBlocks_at ho hlt
    have hsl := hl2 _ (List.getElem_mem hlt)
    have hrow0 := ho.each _ (List.getElem_mem hlt)
    have hpre0 := PreO.start ho hlt
    have hne0 : Hid (∀ g, hv[k].2.ownBlock = some g → S g ∧ g < w.heap.size ∨ w.heap.size + 1 ≤ g) := fun g hg => .inl ⟨hSx _ (List.getElem_mem hlt) g hg, ((hown.each _ (List.getElem_mem hlt)).lt g hg).2⟩
    generalize hv[k].1.ops = ps at *
    generalize hv[k].2 = sv at *
    go_wp2
    go_loopw [3, 4] (fun l i w2 => ∃ (j : Nat), j ≤ 9 ∧ i = .int .i64 j ∧ OwnBlocks w2 base (.slice (some ⟨b, 0, none⟩) hv.length cap) hv ∧ w2.ownsRow base 78 4 l (ps.length + j) (opCells ps ++ pad [.int .i64 77, .int .i64 0, .int .i64 0, .int .i64 0] j) ∧ PreO hv l (opCells ps ++ pad [.int .i64 77, .int .i64 0, .int .i64 0, .int .i64 0] j) ∧
        Hid (∀ g, l.ownBlock = some g → S g ∧ g < w.heap.size ∨ w.heap.size + 1 ≤ g) ∧ w2.cell? ⟨w.heap.size, 4, none⟩ = some (.slice (some ⟨b, 0, none⟩) hv.length cap) ∧ Keep S w w2 ∧ w.heap.size + 1 ≤ w2.heap.size)
      (fun _ i _ => 9 - (intOf i).toNat)
    case atStart => exact ⟨0, Nat.zero_le _, rfl, ho, by simpa [pad] using hrow0, by simpa [pad] using hpre0, hne0, hx0, hbel, hz⟩
    case round =>
      obtain ⟨j, hj, rfl, ho2, hrow, hpre, hne, hy0, hbin, hz2⟩ := hrel
      obtain ⟨lo, lc, rfl⟩ := owns_slice hrow
      by_cases hjl : j < 9
      · have HP : Hid (pad [.int .i64 77, .int .i64 0, .int .i64 0, .int .i64 0] (j + 1) = pad [.int .i64 77, .int .i64 0, .int .i64 0, .int .i64 0] j ++ [.int .i64 77, .int .i64 0, .int .i64 0, .int .i64 0]) := rfl
        go_wp2_with (at_builtin; refine wpList_append_stay _ rfl _ _ 72 rfl base 78 j0 (.agg #[.int .i64 0, .int .i64 0, .int .i64 0, .int .i64 0]) 4 32 Try.underlying72 ji jz0 jz1 jz2 rfl (by decide) _ _ _ rfl (hrow.alloc _) ⟨wr.heap.size, 0, none⟩ 1 1 [.int .i64 77, .int .i64 0, .int .i64 0, .int .i64 0] rfl rfl (four_new wr _ _ _ _ _) ?e2 ?e3 ?e4 ?e5 (by decide) ?_)
        case e2 => first | exact ⟨rfl, rfl, rfl, rfl⟩ | exact four_one | (intro u hu; simp at hu; rcases hu with rfl | rfl <;> rfl)
        case e3 => unfold maxLen; omega
        case e4 => omega
        case e5 => first | omega | (simp; omega)
        intro v' w2 hrow' hgrow hstay hfr
        have hpre' := PreO.step (news := [.int .i64 77, .int .i64 0, .int .i64 0, .int .i64 0]) ho2 hpre (fun g hg => by rcases hfr g hg with e | e; exact .inl e; exact .inr (by omega))
        try rw [List.append_assoc] at hrow'
        rw [← HP.out] at hrow'
        rw [List.append_assoc, ← HP.out] at hpre'
        have ho3 := (ho2.alloc _).app (hrow.alloc _) hpre hgrow hstay
        have hb3 := (hbin.alloc _).grown hgrow (fun g hg => by
          rcases hne.out g hg with e | e
          · exact .inl e.1
          · exact .inr (by omega))
        have hy3 : w2.cell? ⟨w.heap.size, 4, none⟩ = some (.slice (some ⟨b, 0, none⟩) hv.length cap) := hgrow.cell (by rw [World.cell?_alloc_lt _ _ _ (by show w.heap.size < _; omega)]; exact hy0) (fun e => by rcases hne.out _ e.symm with e1 | e1; exact absurd e1.2 (Nat.lt_irrefl _); exact absurd e1 (by simp))
        have hne' : Hid (∀ g, v'.ownBlock = some g → S g ∧ g < w.heap.size ∨ w.heap.size + 1 ≤ g) := fun g hg => by
          rcases hfr g hg with e | e
          · exact hne.out g e
          · exact .inr (by omega)
        have hz3 := hgrow.size
        simp at hz3
        obtain ⟨lo', lc', rfl⟩ := owns_slice hrow'
        clear hgrow hstay hfr hrow ho2 hbin hpre hy0 hne
        go_wp2
        go_roundw
        case rel => exact ⟨j + 1, by omega, by go_num, ho3, hrow', hpre', hne', hy3, hb3, by omega⟩
        case measure => simp [intOf]; omega
      · go_wp2
        go_roundw
        case rel => exact ⟨k + 1, by omega, by go_num, ho2, hy0, hbin, hz2⟩
        case measure => simp [intOf]; omega

end Go.Proofs.Ytdjdjkgoelbbdaa
