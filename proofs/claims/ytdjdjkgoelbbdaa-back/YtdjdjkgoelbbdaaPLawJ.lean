/- The owner writes into each list of a program. -/
import Derived.Test.YtdjdjkgoelbbdaaPSto
set_option linter.unusedSimpArgs false
set_option linter.unusedVariables false
namespace Go.Proofs.Ytdjdjkgoelbbdaa
open Go.RowKit

/-- The first k blocks bear their marks. -/
def MkdP (mark : Int) (k : Nat) (hv : List (BlockD × Value)) : Prop := ∀ i (hi : i < hv.length), i < k → hv[i].1.fin.kind = mark + i ∧ ∀ j, j < hv[i].1.ops.length → okind hv[i].1.ops j = mark + i

theorem MkdP.set {mark : Int} {k : Nat} {hv : List (BlockD × Value)} (h : MkdP mark k hv) (x : BlockD × Value) : MkdP mark k (hv.set k x) := by
  intro i hi hik
  have e : (hv.set k x)[i] = hv[i]'(by simpa using hi) := by rw [List.getElem_set, if_neg (by omega)]
  rw [e]
  exact h i _ hik

set_option maxRecDepth 100000 in
set_option maxHeartbeats 4000000 in
theorem ownProg_any (a0 a1 a2 a3 : Int) (v : Value) (hv : List (BlockD × Value)) (w : World) (base : Nat) (mark : Int) (hown : OwnBlocks w base v hv) (hbs : base ≤ w.heap.size) (hl : hv.length ≤ 1000) (hl2 : ∀ x ∈ hv, x.1.ops.length ≤ 1000) (hm : 0 ≤ mark ∧ mark ≤ 4611686018427387904)
    (S : Nat → Prop) (hSv : ∀ g, v.ownBlock = some g → S g) (hSx : ∀ x ∈ hv, ∀ g, x.2.ownBlock = some g → S g) :
    Calls Try.prog 43 #[.agg #[.int .i64 a0, .int .i64 a1, .int .i64 a2, .int .i64 a3, v], .int .i64 mark] w fun e w' => e = .returned (.bool true) ∧ (∃ hv', OwnBlocks w' base v hv') ∧ Keep S w w' := by
  obtain ⟨ao, cap, rfl⟩ := owns_slice hown.row
  go_enter Try.func43, Try.ntmps43
  go_wp2
  go_loopw [5] (fun i wr => ∃ (k : Nat) (hu : List (BlockD × Value)), k ≤ hv.length ∧ i = .int .i64 k ∧ Hid (hu.length = hv.length) ∧ Hid (∀ x ∈ hu, x.1.ops.length ≤ 1000) ∧ Hid (∀ x ∈ hu, ∀ g, x.2.ownBlock = some g → g < w.heap.size ∧ S g) ∧ MkdP mark k hu ∧ OwnBlocks wr base (.slice ao hv.length cap) hu ∧ wr.cell? ⟨w.heap.size, 4, none⟩ = some (.slice ao hv.length cap) ∧ Keep S w wr ∧ w.heap.size + 1 ≤ wr.heap.size)
    (fun i _ => hv.length - (intOf i).toNat)
  case atStart => exact ⟨0, hv, Nat.zero_le _, rfl, rfl, hl2, fun x hx g hg => ⟨((hown.each x hx).lt g hg).2, hSx x hx g hg⟩, fun i hi h0 => by omega, hown.alloc _, by simp, (Keep.refl _ _).alloc _, by simp⟩
  case round =>
    obtain ⟨k, hu, hk, rfl, hlen, hlp, hlo, hmk, ho, hx0, hbel, hz⟩ := hrel
    have hzl : w.heap.size < wr.heap.size := by omega
    by_cases hlt : k < hv.length
    case neg =>
      obtain ⟨wo, hwo⟩ : ∃ wo, wo = wr := ⟨_, rfl⟩
      subst hwo
      have hmk0 : MkdP mark hu.length hu := fun i hi _ => hmk i hi (by have := hlen.out; omega)
      go_wp2
      clear hmk hown
      go_loop [7] (fun i => ∃ (j : Nat), j ≤ hv.length ∧ i = .int .i64 j) (fun i => hv.length - (intOf i).toNat)
      case atStart => exact ⟨0, Nat.zero_le _, rfl⟩
      case round =>
        obtain ⟨j, hj, rfl⟩ := hrel
        by_cases hjl : j < hv.length
        case neg =>
          go_wp2
          go_ret
          exact ⟨rfl, ⟨_, ho⟩, hbel⟩
        have hju : j < hu.length := by rw [hlen.out]; exact hjl
        obtain ⟨b, rfl, hbb, c2, c1, c3, c4, c5, cf⟩ := ownBlocks_at ho hju
        have hrow := ho.each _ (List.getElem_mem hju)
        have hpl := hlp.out _ (List.getElem_mem hju)
        have hmj := hmk0 j hju hju
        rw [hmj.1] at c1
        have hmp : Hid (∀ i, i < hu[j].1.ops.length → okind hu[j].1.ops i = mark + j) := hmj.2
        obtain ⟨so, sc, hsv⟩ := owns_slice hrow
        rw [hsv] at c2 hrow
        clear hmj hsv
        generalize hu[j].1.ops = ps at *
        have hnq : (mark + (j : Int) != mark + (j : Int)) = false := by simp
        go_wp2
        go_loop [8] (fun i => ∃ (m : Nat), m ≤ ps.length ∧ i = .int .i64 m) (fun i => ps.length - (intOf i).toNat)
        case atStart => exact ⟨0, Nat.zero_le _, rfl⟩
        case round =>
          obtain ⟨m, hmn, rfl⟩ := hrel
          by_cases hml : m < ps.length
          · obtain ⟨g, rfl, hgb, d1, d2, d3, d4, df⟩ := owns_ops_at hrow hml
            rw [hmp.out m hml] at d1
            go_wp2
            go_round
            case rel => exact ⟨m + 1, by omega, by go_num⟩
            case measure => simp [intOf]; omega
          · go_wp2
            go_round
            case rel => exact ⟨j + 1, by omega, by go_num⟩
            case measure => simp [intOf]; omega
    obtain ⟨wo, hwo⟩ : ∃ wo, wo = wr := ⟨_, rfl⟩
    subst hwo
    have hku : k < hu.length := by rw [hlen.out]; exact hlt
    obtain ⟨b, rfl, hbb, c2, c1, c3, c4, c5, cf⟩ := ownBlocks_at ho hku
    have hbw : b < w.heap.size := ((hown.row).lt b rfl).2
    have cf1 := cf (k * 5 + 1)
    have cf2 := cf (k * 5 + 2)
    have cf3 := cf (k * 5 + 3)
    have cf4 := cf (k * 5 + 4)
    have ho1 := ho.setEnd hku (mark + k) 0 0 0
    have hmk1 := hmk.set (⟨hu[k].1.ops, ⟨mark + k, 0, 0, 0⟩⟩, hu[k].2)
    have hlen1 : Hid ((hu.set k (⟨hu[k].1.ops, ⟨mark + k, 0, 0, 0⟩⟩, hu[k].2)).length = hv.length) := by show List.length _ = _; rw [List.length_set]; exact hlen.out
    have hlp1 : Hid (∀ x ∈ hu.set k (⟨hu[k].1.ops, ⟨mark + k, 0, 0, 0⟩⟩, hu[k].2), x.1.ops.length ≤ 1000) := by
      intro x hx
      rcases List.mem_or_eq_of_mem_set hx with hx | rfl
      · exact hlp.out x hx
      · exact hlp.out hu[k] (List.getElem_mem hku)
    have hlo1 : Hid (∀ x ∈ hu.set k (⟨hu[k].1.ops, ⟨mark + k, 0, 0, 0⟩⟩, hu[k].2), ∀ g, x.2.ownBlock = some g → g < w.heap.size ∧ S g) := by
      intro x hx
      rcases List.mem_or_eq_of_mem_set hx with hx | rfl
      · exact hlo.out x hx
      · exact hlo.out hu[k] (List.getElem_mem hku)
    have hsk : Hid (bek (bdat (hu.set k (⟨hu[k].1.ops, ⟨mark + k, 0, 0, 0⟩⟩, hu[k].2))) k = mark + k) := by
      show bek _ _ = _
      unfold bek
      rw [(bdat_get _ (by rw [List.length_set]; exact hku)).2, List.getElem_set_self]
    have hx1 : (set4 wo b (k * 5 + 1) (mark + k) 0 0 0).cell? ⟨w.heap.size, 4, none⟩ = some (.slice (some ⟨b, 0, none⟩) hv.length cap) := cell_unset4 (by simp; omega) hx0
    have hb1 := hbel.set4 (o := k * 5 + 1) (.inl (hSv b rfl)) (mark + k) 0 0 0
    have hz1 : w.heap.size + 1 ≤ (set4 wo b (k * 5 + 1) (mark + k) 0 0 0).heap.size := by rw [set4_size]; exact hz
    have HW : Hid (set4 wo b (k * 5 + 1) (mark + k) 0 0 0 = (((wo.setCell ⟨b, k * 5 + 1, none⟩ (.int .i64 (mark + k))).setCell ⟨b, k * 5 + 2, none⟩ (.int .i64 0)).setCell ⟨b, k * 5 + 3, none⟩ (.int .i64 0)).setCell ⟨b, k * 5 + 4, none⟩ (.int .i64 0)) := rfl
    go_wp2
    rw [← HW.out]
    clear HW
    generalize hu.set k (⟨hu[k].1.ops, ⟨mark + k, 0, 0, 0⟩⟩, hu[k].2) = h1 at *
    generalize set4 wo b (k * 5 + 1) (mark + k) 0 0 0 = w1 at *
    clear hmk hlen hlp hlo ho hx0 hbel hz hzl hku c1 c2 c3 c4 c5 cf cf1 cf2 cf3 cf4 hu wo
    go_loopw [6] (fun i w2 => ∃ (j : Nat) (hu : List (BlockD × Value)), j ≤ 1000 ∧ i = .int .i64 j ∧ Hid (hu.length = hv.length) ∧ Hid (∀ x ∈ hu, x.1.ops.length ≤ 1000) ∧ Hid (∀ x ∈ hu, ∀ g, x.2.ownBlock = some g → g < w.heap.size ∧ S g) ∧ MkdP mark k hu ∧ Hid (bek (bdat hu) k = mark + k) ∧ Hid (j ≤ (bops (bdat hu) k).length ∧ ∀ i, i < j → okind (bops (bdat hu) k) i = mark + k) ∧
        OwnBlocks w2 base (.slice (some ⟨b, 0, none⟩) hv.length cap) hu ∧ w2.cell? ⟨w.heap.size, 4, none⟩ = some (.slice (some ⟨b, 0, none⟩) hv.length cap) ∧ Keep S w w2 ∧ w.heap.size + 1 ≤ w2.heap.size)
      (fun i _ => 1000 - (intOf i).toNat)
    case atStart => exact ⟨0, h1, by omega, rfl, hlen1, hlp1, hlo1, hmk1, hsk, ⟨Nat.zero_le _, fun i hi => by omega⟩, ho1, hx1, hb1, hz1⟩
    case round =>
      clear hlen1 hlp1 hlo1 hmk1 hsk ho1 hx1 hb1 hz1
      obtain ⟨j, hu, hj, rfl, hlen, hlp, hlo, hmk, hsk, hpj, ho, hx0, hbel, hz⟩ := hrel
      have hku : k < hu.length := by rw [hlen.out]; exact hlt
      have hzl : w.heap.size < wr.heap.size := by omega
      obtain ⟨b', e0, _, c2, c1, c3, c4, c5, cf⟩ := ownBlocks_at ho hku
      simp only [Option.some.injEq, Addr.mk.injEq, and_true] at e0
      obtain rfl := e0
      have hrow := ho.each _ (List.getElem_mem hku)
      have hpl := hlp.out _ (List.getElem_mem hku)
      have hlok := hlo.out _ (List.getElem_mem hku)
      have HE : Hid (bops (bdat hu) k = hu[k].1.ops ∧ bfin (bdat hu) k = hu[k].1.fin) := bdat_get hu hku
      obtain ⟨so, sc, hsv⟩ := owns_slice hrow
      have hpj' : Hid (j ≤ hu[k].1.ops.length ∧ ∀ i, i < j → okind hu[k].1.ops i = mark + k) := by have := hpj.out; rw [HE.out.1] at this; exact this
      have hsk' : Hid (hu[k].1.fin.kind = mark + k) := by have := hsk.out; unfold bek at this; rw [HE.out.2] at this; exact this
      have HSV : Hid (hu[k].2 = .slice so hu[k].1.ops.length sc) := hsv
      rw [hsv] at c2
      obtain ⟨n, hn⟩ : ∃ n, n = hu[k].1.ops.length := ⟨_, rfl⟩
      rw [← hn] at c2
      have HN : Hid (n = hu[k].1.ops.length) := hn
      have hn1000 : n ≤ 1000 := by rw [hn]; exact hpl
      by_cases hjn : j < n
      case neg =>
        have hmk' : MkdP mark (k + 1) hu := by
          intro i hi hik
          by_cases e : i = k
          · subst e
            exact ⟨hsk'.out, fun i' hi' => hpj'.out.2 i' (by omega)⟩
          · exact hmk i hi (by omega)
        clear hsv hn hpj hsk hpj' hsk' hmk HE HSV HN hrow
        go_wp2
        go_roundw
        case rel => exact ⟨k + 1, hu, by omega, by go_num, hlen, hlp, hlo, hmk', ho, hx0, hbel, hz⟩
        case measure => simp [intOf]; omega
      have hrow2 : wr.ownsRow base 78 4 (.slice so n sc) hu[k].1.ops.length (opCells hu[k].1.ops) := by rw [hsv, ← hn] at hrow; rw [← hn]; exact hrow
      obtain ⟨g, rfl, hgb, d1, d2, d3, d4, df⟩ := owns_ops_at hrow2 (j := j) (by omega)
      have df0 := df (j * 4)
      have df1 := df (j * 4 + 1)
      have df2 := df (j * 4 + 2)
      have df3 := df (j * 4 + 3)
      have hgo : hu[k].2.ownBlock = some g := by rw [hsv]; rfl
      have hgw : g < w.heap.size := (hlok g hgo).1
      have hgS := (hlok g hgo).2
      have ho' := ho.setOp hku hgo (j := j) (by omega) (mark + k) 0 0 0
      have hmk' := hmk.set (⟨hu[k].1.ops.set j ⟨mark + k, 0, 0, 0⟩, hu[k].1.fin⟩, hu[k].2)
      have hlen' : Hid ((hu.set k (⟨hu[k].1.ops.set j ⟨mark + k, 0, 0, 0⟩, hu[k].1.fin⟩, hu[k].2)).length = hv.length) := by show List.length _ = _; rw [List.length_set]; exact hlen.out
      have hlp' : Hid (∀ x ∈ hu.set k (⟨hu[k].1.ops.set j ⟨mark + k, 0, 0, 0⟩, hu[k].1.fin⟩, hu[k].2), x.1.ops.length ≤ 1000) := by
        intro x hx
        rcases List.mem_or_eq_of_mem_set hx with hx | rfl
        · exact hlp.out x hx
        · show List.length (List.set _ _ _) ≤ 1000
          rw [List.length_set]; exact hpl
      have hlo' : Hid (∀ x ∈ hu.set k (⟨hu[k].1.ops.set j ⟨mark + k, 0, 0, 0⟩, hu[k].1.fin⟩, hu[k].2), ∀ g, x.2.ownBlock = some g → g < w.heap.size ∧ S g) := by
        intro x hx
        rcases List.mem_or_eq_of_mem_set hx with hx | rfl
        · exact hlo.out x hx
        · exact hlok
      have hq := bdat_get (hu.set k (⟨hu[k].1.ops.set j ⟨mark + k, 0, 0, 0⟩, hu[k].1.fin⟩, hu[k].2)) (i := k) (by rw [List.length_set]; exact hku)
      rw [List.getElem_set_self] at hq
      have hsk2 : Hid (bek (bdat (hu.set k (⟨hu[k].1.ops.set j ⟨mark + k, 0, 0, 0⟩, hu[k].1.fin⟩, hu[k].2))) k = mark + k) := by show bek _ _ = _; unfold bek; rw [hq.2]; exact hsk'.out
      have hpj2 : Hid (j + 1 ≤ (bops (bdat (hu.set k (⟨hu[k].1.ops.set j ⟨mark + k, 0, 0, 0⟩, hu[k].1.fin⟩, hu[k].2))) k).length ∧ ∀ i, i < j + 1 → okind (bops (bdat (hu.set k (⟨hu[k].1.ops.set j ⟨mark + k, 0, 0, 0⟩, hu[k].1.fin⟩, hu[k].2))) k) i = mark + k) := by
        show _ ∧ _
        rw [hq.1]
        refine ⟨by simp only [List.length_set]; omega, fun i hi => ?_⟩
        by_cases e : i = j
        · subst e
          simp [okind, List.getD, show i < hu[k].1.ops.length by omega]
        · have := hpj'.out.2 i (by omega)
          simp only [okind, List.getD, List.getElem?_set_ne (fun h => e h.symm)] at this ⊢
          exact this
      have hx1 : (set4 wr g (j * 4) (mark + k) 0 0 0).cell? ⟨w.heap.size, 4, none⟩ = some (.slice (some ⟨b, 0, none⟩) hv.length cap) := cell_unset4 (by simp; omega) hx0
      have hb1 := hbel.set4 (o := j * 4) (.inl hgS) (mark + k) 0 0 0
      have hz1 : w.heap.size + 1 ≤ (set4 wr g (j * 4) (mark + k) 0 0 0).heap.size := by rw [set4_size]; exact hz
      have HW : Hid (set4 wr g (j * 4) (mark + k) 0 0 0 = (((wr.setCell ⟨g, j * 4, none⟩ (.int .i64 (mark + k))).setCell ⟨g, j * 4 + 1, none⟩ (.int .i64 0)).setCell ⟨g, j * 4 + 2, none⟩ (.int .i64 0)).setCell ⟨g, j * 4 + 3, none⟩ (.int .i64 0)) := rfl
      generalize hu.set k (⟨hu[k].1.ops.set j ⟨mark + k, 0, 0, 0⟩, hu[k].1.fin⟩, hu[k].2) = h2 at *
      clear hsv hn hpj hsk hpj' hsk' hmk HE HSV HN hrow hrow2 hq ho hlen hlp hlo
      go_wp2
      rw [← HW.out]
      clear HW
      generalize set4 wr g (j * 4) (mark + k) 0 0 0 = w3 at *
      go_roundw
      case rel => exact ⟨j + 1, h2, by omega, by go_num, hlen', hlp', hlo', hmk', hsk2, hpj2, ho', hx1, hb1, hz1⟩
      case measure => simp [intOf]; omega

end Go.Proofs.Ytdjdjkgoelbbdaa
