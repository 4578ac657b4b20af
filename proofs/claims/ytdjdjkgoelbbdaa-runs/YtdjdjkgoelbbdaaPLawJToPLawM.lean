/- The owner writes into each list of a program. -/
import Derived.Test.YtdjdjkgoelbbdaaPStoJoined
import Derived.Test.YtdjdjkgoelbbdaaPLawLToKSamH
import Derived.Test.YtdjdjkgoelbbdaaKTxtToPLawI
import Derived.Test.YtdjdjkgoelbbdaaLawJToLawM
set_option linter.unusedSimpArgs false
set_option linter.unusedVariables false
namespace Go.Proofs.Ytdjdjkgoelbbdaa
open Go.RowKit

/-- The first k blocks bear their marks. -/
def MkdP (mark : Int) (k : Nat) (hv : List (BlockD × Value)) : Prop := ∀ i (hi : i < hv.length), i < k → hv[i].1.fin.kind = mark + i ∧ ∀ j, j < hv[i].1.ops.length → okind hv[i].1.ops j = mark + i

theorem MkdP.set {mark : Int} {k : Nat} {hv : List (BlockD × Value)} (h : MkdP mark k hv) (x : BlockD × Value) : MkdP mark k (hv.set k x) := by
  intro i hi hik
  have e : (hv.set k x)[i] = hv[i]'(by simpa using hi) := by rw [List.getElem_set, if_neg (by omega)]
  rw [e]
  exact h i _ hik

set_option maxRecDepth 100000 in
set_option maxHeartbeats 4000000 in
theorem ownProg_any (a0 a1 a2 a3 : Int) (v : Value) (hv : List (BlockD × Value)) (w : World) (base : Nat) (mark : Int) (hown : OwnBlocks w base v hv) (hbs : base ≤ w.heap.size) (hl : hv.length ≤ 1000) (hl2 : ∀ x ∈ hv, x.1.ops.length ≤ 1000) (hm : 0 ≤ mark ∧ mark ≤ 4611686018427387904)
    (S : Nat → Prop) (hSv : ∀ g, v.ownBlock = some g → S g) (hSx : ∀ x ∈ hv, ∀ g, x.2.ownBlock = some g → S g) :
    Calls Try.prog 43 #[.agg #[.int .i64 a0, .int .i64 a1, .int .i64 a2, .int .i64 a3, v], .int .i64 mark] w fun e w' => e = .returned (.bool true) ∧ (∃ hv', OwnBlocks w' base v hv') ∧ Keep S w w' := by
  obtain ⟨ao, cap, rfl⟩ := owns_slice hown.row
  go_enter Try.func43, Try.ntmps43
  go_wp2
  go_loopw [5] (fun i wr => ∃ (k : Nat) (hu : List (BlockD × Value)), k ≤ hv.length ∧ i = .int .i64 k ∧ Hid (hu.length = hv.length) ∧ Hid (∀ x ∈ hu, x.1.ops.length ≤ 1000) ∧ Hid (∀ x ∈ hu, ∀ g, x.2.ownBlock = some g → g < w.heap.size ∧ S g) ∧ MkdP mark k hu ∧ OwnBlocks wr base (.slice ao hv.length cap) hu ∧ wr.cell? ⟨w.heap.size, 4, none⟩ = some (.slice ao hv.length cap) ∧ Keep S w wr ∧ w.heap.size + 1 ≤ wr.heap.size)
    (fun i _ => hv.length - (intOf i).toNat)
  case atStart => exact ⟨0, hv, Nat.zero_le _, rfl, rfl, hl2, fun x hx g hg => ⟨((hown.each x hx).lt g hg).2, hSx x hx g hg⟩, fun i hi h0 => by omega, hown.alloc _, by simp, (Keep.refl _ _).alloc _, by simp⟩
  case round =>
    obtain ⟨k, hu, hk, rfl, hlen, hlp, hlo, hmk, ho, hx0, hbel, hz⟩ := hrel
    have hzl : w.heap.size < wr.heap.size := by omega
    by_cases hlt : k < hv.length
    case neg =>
      obtain ⟨wo, hwo⟩ : ∃ wo, wo = wr := ⟨_, rfl⟩
      subst hwo
      have hmk0 : MkdP mark hu.length hu := fun i hi _ => hmk i hi (by have := hlen.out; omega)
      go_wp2
      clear hmk hown
      go_loop [7] (fun i => ∃ (j : Nat), j ≤ hv.length ∧ i = .int .i64 j) (fun i => hv.length - (intOf i).toNat)
      case atStart => exact ⟨0, Nat.zero_le _, rfl⟩
      case round =>
        obtain ⟨j, hj, rfl⟩ := hrel
        by_cases hjl : j < hv.length
        case neg =>
          go_wp2
          go_ret
          exact ⟨rfl, ⟨_, ho⟩, hbel⟩
        have hju : j < hu.length := by rw [hlen.out]; exact hjl
        obtain ⟨b, rfl, hbb, c2, c1, c3, c4, c5, cf⟩ := ownBlocks_at ho hju
        have hrow := ho.each _ (List.getElem_mem hju)
        have hpl := hlp.out _ (List.getElem_mem hju)
        have hmj := hmk0 j hju hju
        rw [hmj.1] at c1
        have hmp : Hid (∀ i, i < hu[j].1.ops.length → okind hu[j].1.ops i = mark + j) := hmj.2
        obtain ⟨so, sc, hsv⟩ := owns_slice hrow
        rw [hsv] at c2 hrow
        clear hmj hsv
        generalize hu[j].1.ops = ps at *
        have hnq : (mark + (j : Int) != mark + (j : Int)) = false := by simp
        go_wp2
        go_loop [8] (fun i => ∃ (m : Nat), m ≤ ps.length ∧ i = .int .i64 m) (fun i => ps.length - (intOf i).toNat)
        case atStart => exact ⟨0, Nat.zero_le _, rfl⟩
        case round =>
          obtain ⟨m, hmn, rfl⟩ := hrel
          by_cases hml : m < ps.length
          · obtain ⟨g, rfl, hgb, d1, d2, d3, d4, df⟩ := owns_ops_at hrow hml
            rw [hmp.out m hml] at d1
            go_wp2
            go_round
            case rel => exact ⟨m + 1, by omega, by go_num⟩
            case measure => simp [intOf]; omega
          · go_wp2
            go_round
            case rel => exact ⟨j + 1, by omega, by go_num⟩
            case measure => simp [intOf]; omega
    obtain ⟨wo, hwo⟩ : ∃ wo, wo = wr := ⟨_, rfl⟩
    subst hwo
    have hku : k < hu.length := by rw [hlen.out]; exact hlt
    obtain ⟨b, rfl, hbb, c2, c1, c3, c4, c5, cf⟩ := ownBlocks_at ho hku
    have hbw : b < w.heap.size := ((hown.row).lt b rfl).2
    have cf1 := cf (k * 5 + 1)
    have cf2 := cf (k * 5 + 2)
    have cf3 := cf (k * 5 + 3)
    have cf4 := cf (k * 5 + 4)
    have ho1 := ho.setEnd hku (mark + k) 0 0 0
    have hmk1 := hmk.set (⟨hu[k].1.ops, ⟨mark + k, 0, 0, 0⟩⟩, hu[k].2)
    have hlen1 : Hid ((hu.set k (⟨hu[k].1.ops, ⟨mark + k, 0, 0, 0⟩⟩, hu[k].2)).length = hv.length) := by show List.length _ = _; rw [List.length_set]; exact hlen.out
    have hlp1 : Hid (∀ x ∈ hu.set k (⟨hu[k].1.ops, ⟨mark + k, 0, 0, 0⟩⟩, hu[k].2), x.1.ops.length ≤ 1000) := by
      intro x hx
      rcases List.mem_or_eq_of_mem_set hx with hx | rfl
      · exact hlp.out x hx
      · exact hlp.out hu[k] (List.getElem_mem hku)
    have hlo1 : Hid (∀ x ∈ hu.set k (⟨hu[k].1.ops, ⟨mark + k, 0, 0, 0⟩⟩, hu[k].2), ∀ g, x.2.ownBlock = some g → g < w.heap.size ∧ S g) := by
      intro x hx
      rcases List.mem_or_eq_of_mem_set hx with hx | rfl
      · exact hlo.out x hx
      · exact hlo.out hu[k] (List.getElem_mem hku)
    have hsk : Hid (bek (bdat (hu.set k (⟨hu[k].1.ops, ⟨mark + k, 0, 0, 0⟩⟩, hu[k].2))) k = mark + k) := by
      show bek _ _ = _
      unfold bek
      rw [(bdat_get _ (by rw [List.length_set]; exact hku)).2, List.getElem_set_self]
    have hx1 : (set4 wo b (k * 5 + 1) (mark + k) 0 0 0).cell? ⟨w.heap.size, 4, none⟩ = some (.slice (some ⟨b, 0, none⟩) hv.length cap) := cell_unset4 (by simp; omega) hx0
    have hb1 := hbel.set4 (o := k * 5 + 1) (.inl (hSv b rfl)) (mark + k) 0 0 0
    have hz1 : w.heap.size + 1 ≤ (set4 wo b (k * 5 + 1) (mark + k) 0 0 0).heap.size := by rw [set4_size]; exact hz
    have HW : Hid (set4 wo b (k * 5 + 1) (mark + k) 0 0 0 = (((wo.setCell ⟨b, k * 5 + 1, none⟩ (.int .i64 (mark + k))).setCell ⟨b, k * 5 + 2, none⟩ (.int .i64 0)).setCell ⟨b, k * 5 + 3, none⟩ (.int .i64 0)).setCell ⟨b, k * 5 + 4, none⟩ (.int .i64 0)) := rfl
    go_wp2
    rw [← HW.out]
    clear HW
    generalize hu.set k (⟨hu[k].1.ops, ⟨mark + k, 0, 0, 0⟩⟩, hu[k].2) = h1 at *
    generalize set4 wo b (k * 5 + 1) (mark + k) 0 0 0 = w1 at *
    clear hmk hlen hlp hlo ho hx0 hbel hz hzl hku c1 c2 c3 c4 c5 cf cf1 cf2 cf3 cf4 hu wo
    go_loopw [6] (fun i w2 => ∃ (j : Nat) (hu : List (BlockD × Value)), j ≤ 1000 ∧ i = .int .i64 j ∧ Hid (hu.length = hv.length) ∧ Hid (∀ x ∈ hu, x.1.ops.length ≤ 1000) ∧ Hid (∀ x ∈ hu, ∀ g, x.2.ownBlock = some g → g < w.heap.size ∧ S g) ∧ MkdP mark k hu ∧ Hid (bek (bdat hu) k = mark + k) ∧ Hid (j ≤ (bops (bdat hu) k).length ∧ ∀ i, i < j → okind (bops (bdat hu) k) i = mark + k) ∧
        OwnBlocks w2 base (.slice (some ⟨b, 0, none⟩) hv.length cap) hu ∧ w2.cell? ⟨w.heap.size, 4, none⟩ = some (.slice (some ⟨b, 0, none⟩) hv.length cap) ∧ Keep S w w2 ∧ w.heap.size + 1 ≤ w2.heap.size)
      (fun i _ => 1000 - (intOf i).toNat)
    case atStart => exact ⟨0, h1, by omega, rfl, hlen1, hlp1, hlo1, hmk1, hsk, ⟨Nat.zero_le _, fun i hi => by omega⟩, ho1, hx1, hb1, hz1⟩
    case round =>
      clear hlen1 hlp1 hlo1 hmk1 hsk ho1 hx1 hb1 hz1
      obtain ⟨j, hu, hj, rfl, hlen, hlp, hlo, hmk, hsk, hpj, ho, hx0, hbel, hz⟩ := hrel
      have hku : k < hu.length := by rw [hlen.out]; exact hlt
      have hzl : w.heap.size < wr.heap.size := by omega
      obtain ⟨b', e0, _, c2, c1, c3, c4, c5, cf⟩ := ownBlocks_at ho hku
      simp only [Option.some.injEq, Addr.mk.injEq, and_true] at e0
      obtain rfl := e0
      have hrow := ho.each _ (List.getElem_mem hku)
      have hpl := hlp.out _ (List.getElem_mem hku)
      have hlok := hlo.out _ (List.getElem_mem hku)
      have HE : Hid (bops (bdat hu) k = hu[k].1.ops ∧ bfin (bdat hu) k = hu[k].1.fin) := bdat_get hu hku
      obtain ⟨so, sc, hsv⟩ := owns_slice hrow
      have hpj' : Hid (j ≤ hu[k].1.ops.length ∧ ∀ i, i < j → okind hu[k].1.ops i = mark + k) := by have := hpj.out; rw [HE.out.1] at this; exact this
      have hsk' : Hid (hu[k].1.fin.kind = mark + k) := by have := hsk.out; unfold bek at this; rw [HE.out.2] at this; exact this
      have HSV : Hid (hu[k].2 = .slice so hu[k].1.ops.length sc) := hsv
      rw [hsv] at c2
      obtain ⟨n, hn⟩ : ∃ n, n = hu[k].1.ops.length := ⟨_, rfl⟩
      rw [← hn] at c2
      have HN : Hid (n = hu[k].1.ops.length) := hn
      have hn1000 : n ≤ 1000 := by rw [hn]; exact hpl
      by_cases hjn : j < n
      case neg =>
        have hmk' : MkdP mark (k + 1) hu := by
          intro i hi hik
          by_cases e : i = k
          · subst e
            exact ⟨hsk'.out, fun i' hi' => hpj'.out.2 i' (by omega)⟩
          · exact hmk i hi (by omega)
        clear hsv hn hpj hsk hpj' hsk' hmk HE HSV HN hrow
        go_wp2
        go_roundw
        case rel => exact ⟨k + 1, hu, by omega, by go_num, hlen, hlp, hlo, hmk', ho, hx0, hbel, hz⟩
        case measure => simp [intOf]; omega
      have hrow2 : wr.ownsRow base 78 4 (.slice so n sc) hu[k].1.ops.length (opCells hu[k].1.ops) := by rw [hsv, ← hn] at hrow; rw [← hn]; exact hrow
      obtain ⟨g, rfl, hgb, d1, d2, d3, d4, df⟩ := owns_ops_at hrow2 (j := j) (by omega)
      have df0 := df (j * 4)
      have df1 := df (j * 4 + 1)
      have df2 := df (j * 4 + 2)
      have df3 := df (j * 4 + 3)
      have hgo : hu[k].2.ownBlock = some g := by rw [hsv]; rfl
      have hgw : g < w.heap.size := (hlok g hgo).1
      have hgS := (hlok g hgo).2
      have ho' := ho.setOp hku hgo (j := j) (by omega) (mark + k) 0 0 0
      have hmk' := hmk.set (⟨hu[k].1.ops.set j ⟨mark + k, 0, 0, 0⟩, hu[k].1.fin⟩, hu[k].2)
      have hlen' : Hid ((hu.set k (⟨hu[k].1.ops.set j ⟨mark + k, 0, 0, 0⟩, hu[k].1.fin⟩, hu[k].2)).length = hv.length) := by show List.length _ = _; rw [List.length_set]; exact hlen.out
      have hlp' : Hid (∀ x ∈ hu.set k (⟨hu[k].1.ops.set j ⟨mark + k, 0, 0, 0⟩, hu[k].1.fin⟩, hu[k].2), x.1.ops.length ≤ 1000) := by
        intro x hx
        rcases List.mem_or_eq_of_mem_set hx with hx | rfl
        · exact hlp.out x hx
        · show List.length (List.set _ _ _) ≤ 1000
          rw [List.length_set]; exact hpl
      have hlo' : Hid (∀ x ∈ hu.set k (⟨hu[k].1.ops.set j ⟨mark + k, 0, 0, 0⟩, hu[k].1.fin⟩, hu[k].2), ∀ g, x.2.ownBlock = some g → g < w.heap.size ∧ S g) := by
        intro x hx
        rcases List.mem_or_eq_of_mem_set hx with hx | rfl
        · exact hlo.out x hx
        · exact hlok
      have hq := bdat_get (hu.set k (⟨hu[k].1.ops.set j ⟨mark + k, 0, 0, 0⟩, hu[k].1.fin⟩, hu[k].2)) (i := k) (by rw [List.length_set]; exact hku)
      rw [List.getElem_set_self] at hq
      have hsk2 : Hid (bek (bdat (hu.set k (⟨hu[k].1.ops.set j ⟨mark + k, 0, 0, 0⟩, hu[k].1.fin⟩, hu[k].2))) k = mark + k) := by show bek _ _ = _; unfold bek; rw [hq.2]; exact hsk'.out
      have hpj2 : Hid (j + 1 ≤ (bops (bdat (hu.set k (⟨hu[k].1.ops.set j ⟨mark + k, 0, 0, 0⟩, hu[k].1.fin⟩, hu[k].2))) k).length ∧ ∀ i, i < j + 1 → okind (bops (bdat (hu.set k (⟨hu[k].1.ops.set j ⟨mark + k, 0, 0, 0⟩, hu[k].1.fin⟩, hu[k].2))) k) i = mark + k) := by
        show _ ∧ _
        rw [hq.1]
        refine ⟨by simp only [List.length_set]; omega, fun i hi => ?_⟩
        by_cases e : i = j
        · subst e
          simp [okind, List.getD, show i < hu[k].1.ops.length by omega]
        · have := hpj'.out.2 i (by omega)
          simp only [okind, List.getD, List.getElem?_set_ne (fun h => e h.symm)] at this ⊢
          exact this
      have hx1 : (set4 wr g (j * 4) (mark + k) 0 0 0).cell? ⟨w.heap.size, 4, none⟩ = some (.slice (some ⟨b, 0, none⟩) hv.length cap) := cell_unset4 (by simp; omega) hx0
      have hb1 := hbel.set4 (o := j * 4) (.inl hgS) (mark + k) 0 0 0
      have hz1 : w.heap.size + 1 ≤ (set4 wr g (j * 4) (mark + k) 0 0 0).heap.size := by rw [set4_size]; exact hz
      have HW : Hid (set4 wr g (j * 4) (mark + k) 0 0 0 = (((wr.setCell ⟨g, j * 4, none⟩ (.int .i64 (mark + k))).setCell ⟨g, j * 4 + 1, none⟩ (.int .i64 0)).setCell ⟨g, j * 4 + 2, none⟩ (.int .i64 0)).setCell ⟨g, j * 4 + 3, none⟩ (.int .i64 0)) := rfl
      generalize hu.set k (⟨hu[k].1.ops.set j ⟨mark + k, 0, 0, 0⟩, hu[k].1.fin⟩, hu[k].2) = h2 at *
      clear hsv hn hpj hsk hpj' hsk' hmk HE HSV HN hrow hrow2 hq ho hlen hlp hlo
      go_wp2
      rw [← HW.out]
      clear HW
      generalize set4 wr g (j * 4) (mark + k) 0 0 0 = w3 at *
      go_roundw
      case rel => exact ⟨j + 1, h2, by omega, by go_num, hlen', hlp', hlo', hmk', hsk2, hpj2, ho', hx1, hb1, hz1⟩
      case measure => simp [intOf]; omega

end Go.Proofs.Ytdjdjkgoelbbdaa

/- The law on programs: writing. -/
set_option linter.unusedSimpArgs false
set_option linter.unusedVariables false
namespace Go.Proofs.Ytdjdjkgoelbbdaa
open Go.RowKit

set_option maxRecDepth 100000 in
set_option maxHeartbeats 4000000 in
theorem encoded_any (a0 a1 a2 a3 : Int) (u : Value) (l : List BlockD) (w : World) (hr : RdBlocks w u l) (hn : l.length ≤ 2513169434916) (hn2 : ∀ k, k < l.length → (bops l k).length ≤ 4398046511104) :
    Calls Try.prog 10 #[.agg #[.int .i64 a0, .int .i64 a1, .int .i64 a2, .int .i64 a3, u]] w fun e w' => e = .returned (.bool true) ∧ Below w.heap.size w w' := by
  obtain ⟨uo, uc, e0, _, _⟩ := id hr
  subst e0
  have hbU : Below w.heap.size w (w.alloc (.cells #[.int .i64 a0, .int .i64 a1, .int .i64 a2, .int .i64 a3, .slice uo l.length uc] 24)) := (Below.refl w.heap.size w).alloc (Nat.le_refl _) _
  have WU : Row (w.alloc (.cells #[.int .i64 a0, .int .i64 a1, .int .i64 a2, .int .i64 a3, .slice uo l.length uc] 24)) w.heap.size 24 [.int .i64 a0, .int .i64 a1, .int .i64 a2, .int .i64 a3, .slice uo l.length uc] := heap_alloc_new w _
  have hr1 := hr.keep hbU
  go_enter Try.func10, Try.ntmps10
  go_wp2_with fail
  refine roomyProg_cps a0 a1 a2 a3 _ l _ hr1 hn hn2 _ ?_
  intro w1 bv L D hdt hlies hL hD hb1
  have VU := WU.keep hb1
  have hb1' : Below (w.heap.size + 1) (w.alloc (.cells #[.int .i64 a0, .int .i64 a1, .int .i64 a2, .int .i64 a3, .slice uo l.length uc] 24)) w1 := by simpa using hb1
  have hz1 := hb1'.size
  simp at hz1
  have hb01 := Below.under hb1'
  have x0 := VU.cell (i := 0) rfl
  have x1 := VU.cell (i := 1) rfl
  have x2 := VU.cell (i := 2) rfl
  have x3 := VU.cell (i := 3) rfl
  have x4 := VU.cell (i := 4) rfl
  have hvl : bv.length = l.length := by rw [← hdt, bdat_length]
  have n2 : ∀ x ∈ bv, x.1.ops.length ≤ 4398046511104 := by
    intro x hx
    obtain ⟨k, hk, rfl⟩ := List.getElem_of_mem hx
    have := hn2 k (by omega)
    rw [← hdt, (bdat_get bv hk).1] at this
    exact this
  have HV : Hid (bv.length = l.length) := hvl
  have rg := rows_rdb (cap := bv.length + 1) hlies hL (by omega) (fun x hx => by have := n2 x hx; omega)
  rw [hdt] at rg
  have HD : Hid (bdat bv = l) := hdt
  clear hb1 hvl hdt
  have hzl : w.heap.size < w1.heap.size := by omega
  -- Encode
  have WL : Row (w1.alloc (.cells #[.int .i64 a0, .int .i64 a1, .int .i64 a2, .int .i64 a3, .slice (some ⟨L, 0, none⟩) bv.length (bv.length + 1)] 24)) w1.heap.size 24 [.int .i64 a0, .int .i64 a1, .int .i64 a2, .int .i64 a3, .slice (some ⟨L, 0, none⟩) bv.length (bv.length + 1)] := heap_alloc_new w1 _
  have hc := tEncode_any ⟨a0, a1, a2, a3, l⟩ _ (w1.alloc (.cells #[.int .i64 a0, .int .i64 a1, .int .i64 a2, .int .i64 a3, .slice (some ⟨L, 0, none⟩) bv.length (bv.length + 1)] 24)) (rg.keep ((Below.refl _ _).alloc (Nat.le_refl _) _))
  simp only [progV] at hc
  go_wp2_with fail
  refine hc.mono ?_
  clear hc
  rintro e w2 ⟨rfl, hb2⟩
  have VL := WL.keep hb2
  have hb2' : Below (w1.heap.size + 1) (w1.alloc (.cells #[.int .i64 a0, .int .i64 a1, .int .i64 a2, .int .i64 a3, .slice (some ⟨L, 0, none⟩) bv.length (bv.length + 1)] 24)) w2 := by simpa using hb2
  have hb12 := Below.under hb2'
  have hz2 := hb2'.size
  simp at hz2
  have VU2 := VU.keep hb12
  have y0 := VU2.cell (i := 0) rfl
  have y1 := VU2.cell (i := 1) rfl
  have y2 := VU2.cell (i := 2) rfl
  have y3 := VU2.cell (i := 3) rfl
  have y4 := VU2.cell (i := 4) rfl
  have z0 := VL.cell (i := 0) rfl
  have z1 := VL.cell (i := 1) rfl
  have z2 := VL.cell (i := 2) rfl
  have z3 := VL.cell (i := 3) rfl
  have z4 := VL.cell (i := 4) rfl
  have hb02 := hb01.trans (hb12.mono (by omega))
  have hu2 := hr.keep hb02
  have hu2' : RdBlocks w2 (.slice uo l.length uc) (bdat bv) := by rw [HD.out]; exact hu2
  have hw := wholeProg_any a0 a1 a2 a3 bv L D _ _ w2 (hlies.keep hb12) (hL.keep hb12) (hD.keep hb12) hu2' (by rw [HV.out]; exact hn) n2
  clear hb2 hb2' x0 x1 x2 x3 x4
  cases hg : progGood ⟨a0, a1, a2, a3, l⟩
  · simp only [Bool.false_eq_true, if_false]
    go_wp2_with fail
    refine hw.mono ?_
    clear hw
    rintro e w3 ⟨rfl, hb3⟩
    have VU3 := VU2.keep hb3
    have t0 := VU3.cell (i := 0) rfl
    have t1 := VU3.cell (i := 1) rfl
    have t2 := VU3.cell (i := 2) rfl
    have t3 := VU3.cell (i := 3) rfl
    have t4 := VU3.cell (i := 4) rfl
    have hb03 := hb02.trans (hb3.mono (by omega))
    have hz3 := hb3.size
    clear y0 y1 y2 y3 y4 z0 z1 z2 z3 z4
    go_wp2_with fail
    refine (rGood_any a0 a1 a2 a3 _ l _ (hr.keep hb03)).mono ?_
    rintro e w4 ⟨rfl, hb4⟩
    have hb04 := hb03.trans (hb4.mono (by omega))
    clear hlies hL hD rg hu2 hu2' t0 t1 t2 t3 t4
    rw [hg]
    go_wp2
    go_ret
    exact ⟨by simp, hb04⟩
  · simp only [if_true]
    go_wp2_with fail
    refine hw.mono ?_
    clear hw
    rintro e w3 ⟨rfl, hb3⟩
    have VU3 := VU2.keep hb3
    have t0 := VU3.cell (i := 0) rfl
    have t1 := VU3.cell (i := 1) rfl
    have t2 := VU3.cell (i := 2) rfl
    have t3 := VU3.cell (i := 3) rfl
    have t4 := VU3.cell (i := 4) rfl
    have hb03 := hb02.trans (hb3.mono (by omega))
    have hz3 := hb3.size
    clear y0 y1 y2 y3 y4 z0 z1 z2 z3 z4
    go_wp2_with fail
    refine (rGood_any a0 a1 a2 a3 _ l _ (hr.keep hb03)).mono ?_
    rintro e w4 ⟨rfl, hb4⟩
    have VU4 := VU3.keep hb4
    have hb04 := hb03.trans (hb4.mono (by omega))
    have hz4 := hb4.size
    clear hlies hL hD rg hu2 hu2' t0 t1 t2 t3 t4
    have t0 := VU4.cell (i := 0) rfl
    have t1 := VU4.cell (i := 1) rfl
    have t2 := VU4.cell (i := 2) rfl
    have t3 := VU4.cell (i := 3) rfl
    have t4 := VU4.cell (i := 4) rfl
    rw [hg]
    go_wp2_with fail
    refine (rText_any ⟨a0, a1, a2, a3, l⟩ _ _ (hr.keep hb04) hg).mono ?_
    rintro e w5 ⟨rfl, hb5⟩
    have hb05 := hb04.trans (hb5.mono (by omega))
    have hs := toList_self (str (progText ⟨a0, a1, a2, a3, l⟩))
    clear t0 t1 t2 t3 t4
    go_wp2
    go_ret
    exact ⟨by simp, hb05⟩

end Go.Proofs.Ytdjdjkgoelbbdaa
