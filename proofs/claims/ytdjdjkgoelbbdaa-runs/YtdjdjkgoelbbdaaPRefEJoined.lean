/- The text of a program, in the document's answer. -/
import Derived.Test.YtdjdjkgoelbbdaaLawNToPDat
set_option linter.unusedSimpArgs false
set_option linter.unusedVariables false
namespace Go.Proofs.Ytdjdjkgoelbbdaa
open Go.RowKit

theorem bytes4 (x y z u : Int) (w : World) : Calls Try.prog 72 #[.slice (some ⟨w.heap.size, 0, none⟩) 4 4] (w.alloc (.cells #[.int .i64 x, .int .i64 y, .int .i64 z, .int .i64 u] 3)) fun e w' => e = .returned (.string ⟨#[byt x, byt y, byt z, byt u]⟩) ∧ Below w.heap.size w w' := by
  have h := bytes_any w.heap.size 0 4 [x, y, z, u] (w.alloc (.cells #[.int .i64 x, .int .i64 y, .int .i64 z, .int .i64 u] 3)) (by simp) (by simp) (by
    intro i hi
    obtain rfl | rfl | rfl | rfl : i = 0 ∨ i = 1 ∨ i = 2 ∨ i = 3 := by simp at hi; omega
    all_goals simp [el])
  refine h.mono ?_
  rintro e w' ⟨rfl, hb⟩
  exact ⟨rfl, ((Below.refl _ _).alloc (Nat.le_refl _) _).trans (hb.mono (by simp))⟩

theorem bytes5 (x y z u v : Int) (w : World) : Calls Try.prog 72 #[.slice (some ⟨w.heap.size, 0, none⟩) 5 5] (w.alloc (.cells #[.int .i64 x, .int .i64 y, .int .i64 z, .int .i64 u, .int .i64 v] 3)) fun e w' => e = .returned (.string ⟨#[byt x, byt y, byt z, byt u, byt v]⟩) ∧ Below w.heap.size w w' := by
  have h := bytes_any w.heap.size 0 5 [x, y, z, u, v] (w.alloc (.cells #[.int .i64 x, .int .i64 y, .int .i64 z, .int .i64 u, .int .i64 v] 3)) (by simp) (by simp) (by
    intro i hi
    obtain rfl | rfl | rfl | rfl | rfl : i = 0 ∨ i = 1 ∨ i = 2 ∨ i = 3 ∨ i = 4 := by simp at hi; omega
    all_goals simp [el])
  refine h.mono ?_
  rintro e w' ⟨rfl, hb⟩
  exact ⟨rfl, ((Below.refl _ _).alloc (Nat.le_refl _) _).trans (hb.mono (by simp))⟩

/-- The text as far as the first k blocks, the k-th begun, and j of its operations. -/
def progAt (p : ProgD) (k j : Nat) : ByteArray := progTo p k ++ blockTo (bops p.blocks k) j

theorem progAt_start (p : ProgD) (k : Nat) : progAt p k 0 = progTo p k ++ ⟨#[byt (bops p.blocks k).length]⟩ := rfl

theorem progAt_step {p : ProgD} {k j : Nat} (hj : j < (bops p.blocks k).length) : progAt p k (j + 1) = progAt p k j ++ ⟨#[byt (okind (bops p.blocks k) j), byt (oa (bops p.blocks k) j), byt (ob (bops p.blocks k) j), byt (oc (bops p.blocks k) j)]⟩ := by
  unfold progAt; rw [blockTo_step hj, bappend_assoc]

theorem progAt_end {p : ProgD} {k j : Nat} (hk : k < p.blocks.length) (hj : (bops p.blocks k).length ≤ j) : progAt p k j ++ ⟨#[byt (bek p.blocks k), byt (ber p.blocks k), byt (bex p.blocks k), byt (bey p.blocks k)]⟩ = progTo p (k + 1) := by
  unfold progAt
  rw [bappend_assoc, blockTo_end ⟨bek p.blocks k, ber p.blocks k, bex p.blocks k, bey p.blocks k⟩ hj, progTo_step hk]

theorem progAt_size {p : ProgD} (hg : progGood p = true) {k j : Nat} (hk : k < p.blocks.length) (hj : j ≤ (bops p.blocks k).length) : (progAt p k j).size ≤ 400 := by
  have h1 := progTo_size hg k
  have h2 := progGood_ops hg hk
  have h3 := blockTo_size (bops p.blocks k) j hj
  unfold progAt
  rw [ByteArray.size_append]
  omega

set_option maxRecDepth 100000 in
set_option maxHeartbeats 4000000 in
theorem rText_any (p : ProgD) (v : Value) (w : World) (hr : RdBlocks w v p.blocks) (hg : progGood p = true) :
    Calls Try.prog 39 #[.agg #[.int .i64 p.args, .int .i64 p.regs, .int .i64 p.data, .int .i64 p.slots, v]] w fun e w' => e = .returned (.string (str (progText p))) ∧ Below w.heap.size w w' := by
  obtain ⟨ao, cap, rfl, hl, hc⟩ := hr
  obtain ⟨G, hG⟩ : ∃ G, str (progText p) = G := ⟨_, rfl⟩
  rw [hG]
  have HG : Hid (str (progText p) = G) := hG
  clear hG
  have hlen := (progGood_len hg).2
  have h0 : (⟨#[84, 87]⟩ : ByteArray) ++ ⟨#[byt p.args, byt p.regs, byt p.data, byt p.slots, byt p.blocks.length]⟩ = progTo p 0 := by
    show str [84, 87] ++ str [_, _, _, _, _] = _
    rw [str_append]; rfl
  have hb := bytes5 p.args p.regs p.data p.slots p.blocks.length (w.alloc (.cells #[.int .i64 p.args, .int .i64 p.regs, .int .i64 p.data, .int .i64 p.slots, .slice ao p.blocks.length cap] 24))
  simp only [World.size_alloc] at hb
  have HST : Hid (∀ k, k < p.blocks.length → progAt p k 0 = progTo p k ++ ⟨#[byt (bops p.blocks k).length]⟩) := fun k _ => progAt_start p k
  have HOP : Hid (∀ k, k < p.blocks.length → (bops p.blocks k).length ≤ 12) := fun k hk => progGood_ops hg hk
  have HSZ : Hid (∀ k, (progTo p k).size ≤ 330) := fun k => progTo_size hg k
  have HSA : Hid (∀ k j, k < p.blocks.length → j ≤ (bops p.blocks k).length → (progAt p k j).size ≤ 400) := fun k j h1 h2 => progAt_size hg h1 h2
  have HSS : Hid (∀ k j, j < (bops p.blocks k).length → progAt p k (j + 1) = progAt p k j ++ ⟨#[byt (okind (bops p.blocks k) j), byt (oa (bops p.blocks k) j), byt (ob (bops p.blocks k) j), byt (oc (bops p.blocks k) j)]⟩) := fun k j h => progAt_step h
  have HSE : Hid (∀ k j, k < p.blocks.length → (bops p.blocks k).length ≤ j → progAt p k j ++ ⟨#[byt (bek p.blocks k), byt (ber p.blocks k), byt (bex p.blocks k), byt (bey p.blocks k)]⟩ = progTo p (k + 1)) := fun k j h1 h2 => progAt_end h1 h2
  have HEN : Hid (progTo p p.blocks.length = G) := (progTo_end (Nat.le_refl _)).trans HG.out
  obtain ⟨T, hT⟩ : ∃ T : Nat → ByteArray, T = progTo p := ⟨_, rfl⟩
  obtain ⟨U, hU⟩ : ∃ U : Nat → Nat → ByteArray, U = progAt p := ⟨_, rfl⟩
  rw [← hT] at h0 HEN
  rw [← hT] at HST HSZ HSE
  rw [← hU] at HST HSA HSS HSE
  clear hT hU HG
  generalize p.blocks = l at *
  generalize p.args = a0 at *
  generalize p.regs = a1 at *
  generalize p.data = a2 at *
  generalize p.slots = a3 at *
  clear hg
  go_enter Try.func39, Try.ntmps39
  go_wp2_with fail
  refine hb.mono ?_
  clear hb
  rintro e w1 ⟨rfl, hb1⟩
  go_wp2
  go_loopw [3, 4] (fun s i wr => ∃ (k : Nat), k ≤ l.length ∧ i = .int .i64 k ∧ s = .string (T k) ∧ Below (w.heap.size + 1) (w.alloc (.cells #[.int .i64 a0, .int .i64 a1, .int .i64 a2, .int .i64 a3, .slice ao l.length cap] 24)) wr)
      (fun _ i _ => l.length - (intOf i).toNat)
  case atStart => exact ⟨0, Nat.zero_le _, rfl, by first | rfl | rw [← h0], by simpa using hb1⟩
  case round =>
    clear h0 hb1 w1
    obtain ⟨k, hk, rfl, rfl, hbel⟩ := hrel
    have hb0 := Below.under hbel
    have p4 : wr.cell? ⟨w.heap.size, 4, none⟩ = some (.slice ao l.length cap) := (hbel.cell (by simp)).trans (by simp)
    have hz := hbel.size
    simp at hz
    by_cases hlt : k < l.length
    case neg =>
      obtain rfl : k = l.length := by omega
      have he := HEN.out
      go_wp2
      go_ret
      exact ⟨by simp [he], hb0⟩
    obtain ⟨b, off, sv, rfl, c1, c2, c3, c4, c5, c6⟩ := hc k hlt
    have e1 := cell_keep hb0 c1
    have e6 := c6.keep hb0
    obtain ⟨so, sc, es, _, _⟩ := id e6
    subst es
    have hol := HOP.out k hlt
    have hsz := HSZ.out k
    have hb2 := bytes1 (bops l k).length wr
    have HA : Hid (U k 0 = T k ++ ⟨#[byt (bops l k).length]⟩) := HST.out k hlt
    obtain ⟨wo, hwo⟩ : ∃ wo, wo = wr := ⟨_, rfl⟩
    subst hwo
    go_wp2_with fail
    refine hb2.mono ?_
    clear hb2
    rintro e w1 ⟨rfl, hb3⟩
    clear p4 e1
    go_wp2
    go_loopw [3, 5] (fun s i w2 => ∃ (j : Nat), j ≤ (bops l k).length ∧ i = .int .i64 j ∧ s = .string (U k j) ∧ Below wo.heap.size wo w2)
      (fun _ i _ => (bops l k).length - (intOf i).toNat)
    case atStart => exact ⟨0, Nat.zero_le _, rfl, by rw [HA.out], hb3⟩
    case round =>
      clear hb3 w1
      obtain ⟨j, hj, rfl, rfl, hbin⟩ := hrel
      have hb1 := hbel.trans (hbin.mono (by omega))
      have hb01 := Below.under hb1
      have p4 : wr.cell? ⟨w.heap.size, 4, none⟩ = some (.slice (some ⟨b, off, none⟩) l.length cap) := (hb1.cell (by simp)).trans (by simp)
      have e1 := cell_keep hb01 c1
      have e2 := cell_keep hb01 c2
      have e3 := cell_keep hb01 c3
      have e4 := cell_keep hb01 c4
      have e5 := cell_keep hb01 c5
      have hsz2 := HSA.out k j hlt hj
      have hzi := hbin.size
      by_cases hjl : j < (bops l k).length
      case neg =>
        have HE : Hid (U k j ++ ⟨#[byt (bek l k), byt (ber l k), byt (bex l k), byt (bey l k)]⟩ = T (k + 1)) := HSE.out k j hlt (by omega)
        have hb4 := bytes4 (bek l k) (ber l k) (bex l k) (bey l k) (wr.alloc (.cells #[.int .i64 (bek l k), .int .i64 (ber l k), .int .i64 (bex l k), .int .i64 (bey l k)] 74))
        simp only [World.size_alloc] at hb4
        go_wp2_with fail
        refine hb4.mono ?_
        clear hb4
        rintro e w1 ⟨rfl, hb5⟩
        have hb6 := (hb1.alloc (by omega) (.cells #[.int .i64 (bek l k), .int .i64 (ber l k), .int .i64 (bex l k), .int .i64 (bey l k)] 74)).trans (hb5.mono (by first | omega | (simp; omega)))
        clear p4 e1 e2 e3 e4 e5 hb5
        go_wp2
        go_roundw
        case rel => exact ⟨k + 1, by omega, by go_num, by rw [HE.out], hb6⟩
        case measure => simp [intOf]; omega
      obtain ⟨so', sc', es, _, hops⟩ := e6.keep hbin
      simp only [Value.slice.injEq, true_and] at es
      obtain ⟨rfl, rfl⟩ := es
      obtain ⟨b2, off2, rfl, d1, d2, d3, d4⟩ := hops j hjl
      have HS : Hid (U k (j + 1) = U k j ++ ⟨#[byt (okind (bops l k) j), byt (oa (bops l k) j), byt (ob (bops l k) j), byt (oc (bops l k) j)]⟩) := HSS.out k j hjl
      have hb4 := bytes4 (okind (bops l k) j) (oa (bops l k) j) (ob (bops l k) j) (oc (bops l k) j) (wr.alloc (.cells #[.int .i64 (okind (bops l k) j), .int .i64 (oa (bops l k) j), .int .i64 (ob (bops l k) j), .int .i64 (oc (bops l k) j)] 78))
      simp only [World.size_alloc] at hb4
      go_wp2_with fail
      refine hb4.mono ?_
      clear hb4
      rintro e w1 ⟨rfl, hb5⟩
      have hb6 := (hbin.alloc (by omega) (.cells #[.int .i64 (okind (bops l k) j), .int .i64 (oa (bops l k) j), .int .i64 (ob (bops l k) j), .int .i64 (oc (bops l k) j)] 78)).trans (hb5.mono (by first | omega | (simp; omega)))
      clear p4 e1 e2 e3 e4 e5 hb5 d1 d2 d3 d4
      go_wp2
      go_roundw
      case rel => exact ⟨j + 1, by omega, by go_num, by rw [HS.out], hb6⟩
      case measure => simp [intOf]; omega

end Go.Proofs.Ytdjdjkgoelbbdaa
