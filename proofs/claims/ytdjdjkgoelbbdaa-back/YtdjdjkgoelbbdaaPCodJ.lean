/- The text of a program in the codec. -/
import Derived.Test.YtdjdjkgoelbbdaaPCodI
set_option linter.unusedSimpArgs false
set_option linter.unusedVariables false
namespace Go.Proofs.Ytdjdjkgoelbbdaa
open Go.RowKit

set_option maxRecDepth 100000 in
set_option maxHeartbeats 2000000 in
theorem cBlockText_any (sv : Value) (l : List OpD) (k r x y : Int) (w : World) (hr : RdOps w sv l) (hn : l.length ≤ 12) :
    Calls Try.prog 85 #[.agg #[sv, .int .i64 k, .int .i64 r, .int .i64 x, .int .i64 y]] w fun e w' => e = .returned (.string (str (blockText ⟨l, ⟨k, r, x, y⟩⟩))) ∧ Below w.heap.size w w' := by
  obtain ⟨ao, cap, rfl, hl, hc⟩ := hr
  obtain ⟨G, hG⟩ : ∃ G, str (blockText ⟨l, ⟨k, r, x, y⟩⟩) = G := ⟨_, rfl⟩
  rw [hG]
  have HG : Hid (str (blockText ⟨l, ⟨k, r, x, y⟩⟩) = G) := hG
  clear hG
  go_enter Try.func85, Try.ntmps85
  go_wp2_with fail
  refine (oneByte_any _ _).mono ?_
  rintro e w1 ⟨rfl, hb1⟩
  have h0 : (⟨#[byt l.length]⟩ : ByteArray) = blockTo l 0 := rfl
  rw [h0]
  have hb1' : Below (w.heap.size + 1) (w.alloc (.cells #[.slice ao l.length cap, .int .i64 k, .int .i64 r, .int .i64 x, .int .i64 y] 76)) w1 := by simpa using hb1
  clear hb1 h0
  go_wp2
  go_loopw [3, 4] (fun s i wr => ∃ (j : Nat), j ≤ l.length ∧ i = .int .i64 j ∧ s = .string (blockTo l j) ∧ Below (w.heap.size + 1) (w.alloc (.cells #[.slice ao l.length cap, .int .i64 k, .int .i64 r, .int .i64 x, .int .i64 y] 76)) wr)
    (fun _ i _ => l.length - (intOf i).toNat)
  case atStart => exact ⟨0, Nat.zero_le _, rfl, rfl, hb1'⟩
  case round =>
    obtain ⟨j, hj, rfl, rfl, hbel⟩ := hrel
    clear hb1' w1
    have hb0 := Below.under hbel
    have q0 : wr.cell? ⟨w.heap.size, 0, none⟩ = some (.slice ao l.length cap) := (hbel.cell (by simp)).trans (by simp)
    have q1 : wr.cell? ⟨w.heap.size, 1, none⟩ = some (.int .i64 k) := (hbel.cell (by simp)).trans (by simp)
    have q2 : wr.cell? ⟨w.heap.size, 2, none⟩ = some (.int .i64 r) := (hbel.cell (by simp)).trans (by simp)
    have q3 : wr.cell? ⟨w.heap.size, 3, none⟩ = some (.int .i64 x) := (hbel.cell (by simp)).trans (by simp)
    have q4 : wr.cell? ⟨w.heap.size, 4, none⟩ = some (.int .i64 y) := (hbel.cell (by simp)).trans (by simp)
    have hz := hbel.size
    simp at hz
    have hsz : (blockTo l j).size ≤ 100 := by rw [blockTo_size _ _ hj]; omega
    by_cases hlt : j < l.length
    · obtain ⟨b, off, rfl, c1, c2, c3, c4⟩ := hc j hlt
      have e1 := cell_keep hb0 c1
      have e2 := cell_keep hb0 c2
      have e3 := cell_keep hb0 c3
      have e4 := cell_keep hb0 c4
      have HS : Hid (blockTo l (j + 1) = blockTo l j ++ ⟨#[byt (okind l j), byt (oa l j), byt (ob l j), byt (oc l j)]⟩) := blockTo_step hlt
      go_wp2_with fail
      refine (fourBytes_any _ _ _ _ _).mono ?_
      rintro e w2 ⟨rfl, hb2⟩
      have hb3 := (hbel.alloc (by omega) (.cells #[.int .i64 (okind l j), .int .i64 (oa l j), .int .i64 (ob l j), .int .i64 (oc l j)] 78)).trans (hb2.mono (by simp; omega))
      clear hb2 q0 q1 q2 q3 q4 e1 e2 e3 e4
      go_wp2
      go_roundw
      case rel => exact ⟨j + 1, by omega, by go_num, by rw [HS.out], hb3⟩
      case measure => simp [intOf]; omega
    · have HE : Hid (blockTo l j ++ ⟨#[byt k, byt r, byt x, byt y]⟩ = G) := (blockTo_end ⟨k, r, x, y⟩ (by omega)).trans HG.out
      go_wp2_with fail
      refine (fourBytes_any _ _ _ _ _).mono ?_
      rintro e w2 ⟨rfl, hb2⟩
      have hb3 := hb0.trans (hb2.mono (by omega))
      have he := HE.out
      clear q0 q1 q2 q3 q4
      go_wp2
      go_ret
      exact ⟨by simp [he], hb3⟩

set_option maxRecDepth 100000 in
set_option maxHeartbeats 2000000 in
theorem cEncode_any (args regs data slots : Int) (v : Value) (l : List BlockD) (w : World) (hr : RdBlocks w v l) :
    Calls Try.prog 57 #[.agg #[.int .i64 args, .int .i64 regs, .int .i64 data, .int .i64 slots, v]] w fun e w' => e = .returned (.tuple (if progGood ⟨args, regs, data, slots, l⟩ then #[.string (str (progText ⟨args, regs, data, slots, l⟩)), .int .i64 0] else #[.string ⟨#[]⟩, .int .i64 1])) ∧ Below w.heap.size w w' := by
  have hr0 := hr
  obtain ⟨ao, cap, rfl, hl, hc⟩ := hr
  have hw := wmProg_any args regs data slots _ l _ (hr0.keep ((Below.refl w.heap.size w).alloc (Nat.le_refl _) (.cells #[.int .i64 args, .int .i64 regs, .int .i64 data, .int .i64 slots, .slice ao l.length cap] 24)))
  cases hg : progGood ⟨args, regs, data, slots, l⟩
  · go_enter Try.func57, Try.ntmps57
    go_wp2_with fail
    refine hw.mono ?_
    clear hw
    rintro e w1 ⟨rfl, hb1⟩
    rw [hg]
    go_wp2
    go_ret2
    exact ⟨by simp [hg], ((Below.refl _ _).alloc (Nat.le_refl _) _).trans (hb1.mono (by simp))⟩
  · obtain ⟨p, hp⟩ : ∃ p : ProgD, p = ⟨args, regs, data, slots, l⟩ := ⟨_, rfl⟩
    have hgp : progGood p = true := by rw [hp]; exact hg
    obtain ⟨G, hG⟩ : ∃ G, str (progText ⟨args, regs, data, slots, l⟩) = G := ⟨_, rfl⟩
    rw [hG]
    rw [← hp] at hG
    have hpl : p.blocks = l := by rw [hp]
    have HG : Hid (str (progText p) = G) := hG
    have HPL : Hid (p.blocks = l) := hpl
    have h0 : (⟨#[84, 87]⟩ : ByteArray) ++ ⟨#[byt args, byt regs, byt data, byt slots]⟩ ++ ⟨#[byt l.length]⟩ = progTo p 0 := by
      show str [84, 87] ++ str [_, _, _, _] ++ str [_] = _
      rw [str_append, str_append, hp]; rfl
    have hlen : l.length ≤ 6 := by have := (progGood_len hgp).2; rw [hpl] at this; exact this
    have HO : Hid (∀ k, k < l.length → (bops l k).length ≤ 12) := by intro k hk; have := progGood_ops hgp (k := k) (by rw [hpl]; exact hk); rw [hpl] at this; exact this
    have HSZ : Hid (∀ k, (progTo p k).size ≤ 330) := fun k => progTo_size hgp k
    have HST : Hid (∀ k, k < l.length → progTo p (k + 1) = progTo p k ++ str (blockText ⟨bops l k, ⟨bek l k, ber l k, bex l k, bey l k⟩⟩)) := by
      intro k hk
      have := progTo_step (p := p) (k := k) (by rw [hpl]; exact hk)
      rw [hpl] at this
      exact this
    have HEN : Hid (progTo p l.length = G) := by
      show _ = _
      rw [← hG]
      exact progTo_end (by rw [hpl]; exact Nat.le_refl _)
    clear hG hgp hpl hp
    go_enter Try.func57, Try.ntmps57
    go_wp2_with fail
    refine hw.mono ?_
    clear hw
    rintro e w1 ⟨rfl, hb1⟩
    rw [hg]
    have hb1' : Below (w.heap.size + 1) (w.alloc (.cells #[.int .i64 args, .int .i64 regs, .int .i64 data, .int .i64 slots, .slice ao l.length cap] 24)) w1 := by simpa using hb1
    clear hb1
    have p0 : w1.cell? ⟨w.heap.size, 0, none⟩ = some (.int .i64 args) := (hb1'.cell (by simp)).trans (by simp)
    have p1 : w1.cell? ⟨w.heap.size, 1, none⟩ = some (.int .i64 regs) := (hb1'.cell (by simp)).trans (by simp)
    have p2 : w1.cell? ⟨w.heap.size, 2, none⟩ = some (.int .i64 data) := (hb1'.cell (by simp)).trans (by simp)
    have p3 : w1.cell? ⟨w.heap.size, 3, none⟩ = some (.int .i64 slots) := (hb1'.cell (by simp)).trans (by simp)
    have p4 : w1.cell? ⟨w.heap.size, 4, none⟩ = some (.slice ao l.length cap) := (hb1'.cell (by simp)).trans (by simp)
    have hz1 := hb1'.size
    simp at hz1
    go_wp2_with fail
    refine (fourBytes_any _ _ _ _ _).mono ?_
    rintro e w2 ⟨rfl, hb2⟩
    have hb2' := hb1'.trans (hb2.mono (by omega))
    have r4 := cell_keep hb2 p4
    have hz2 := hb2.size
    clear p0 p1 p2 p3 p4
    go_wp2_with fail
    refine (oneByte_any _ _).mono ?_
    rintro e w3 ⟨rfl, hb3⟩
    have hb3' := hb2'.trans (hb3.mono (by omega))
    clear r4 hb2 hb3 hb1' hb2'
    go_wp2
    go_loopw [4, 5] (fun s i wr => ∃ (k : Nat), k ≤ l.length ∧ i = .int .i64 k ∧ s = .string (progTo p k) ∧ Below (w.heap.size + 1) (w.alloc (.cells #[.int .i64 args, .int .i64 regs, .int .i64 data, .int .i64 slots, .slice ao l.length cap] 24)) wr)
      (fun _ i _ => l.length - (intOf i).toNat)
    case atStart => exact ⟨0, Nat.zero_le _, rfl, by rw [← h0], hb3'⟩
    case round =>
      clear h0 hb3' hz1 hz2 w1 w2 w3
      obtain ⟨k, hk, rfl, rfl, hbel⟩ := hrel
      have hb0 := Below.under hbel
      have p4 : wr.cell? ⟨w.heap.size, 4, none⟩ = some (.slice ao l.length cap) := (hbel.cell (by simp)).trans (by simp)
      have hz := hbel.size
      simp at hz
      have hsz := HSZ.out k
      by_cases hlt : k < l.length
      · obtain ⟨b, off, sv, rfl, c1, c2, c3, c4, c5, c6⟩ := hc k hlt
        have e1 := cell_keep hb0 c1
        have e2 := cell_keep hb0 c2
        have e3 := cell_keep hb0 c3
        have e4 := cell_keep hb0 c4
        have e5 := cell_keep hb0 c5
        have e6 := c6.keep hb0
        have hol := HO.out k hlt
        have HS : Hid (progTo p (k + 1) = progTo p k ++ str (blockText ⟨bops l k, ⟨bek l k, ber l k, bex l k, bey l k⟩⟩)) := HST.out k hlt
        have hsz2 : (str (blockText ⟨bops l k, ⟨bek l k, ber l k, bex l k, bey l k⟩⟩)).size ≤ 100 := by rw [str_size, blockText_length]; simp only []; omega
        obtain ⟨so, sc, es, _, _⟩ := id e6
        subst es
        go_wp2_with fail
        refine (cBlockText_any _ _ _ _ _ _ _ e6 hol).mono ?_
        rintro e w1 ⟨rfl, hb1⟩
        have hb4 := hbel.trans (hb1.mono (by omega))
        clear e1 e2 e3 e4 e5 e6 p4
        go_wp2
        go_roundw
        case rel => exact ⟨k + 1, by omega, by go_num, by rw [HS.out], hb4⟩
        case measure => simp [intOf]; omega
      · obtain rfl : k = l.length := by omega
        have he := HEN.out
        go_wp2
        go_ret2
        exact ⟨by simp [he], hb0⟩

end Go.Proofs.Ytdjdjkgoelbbdaa
