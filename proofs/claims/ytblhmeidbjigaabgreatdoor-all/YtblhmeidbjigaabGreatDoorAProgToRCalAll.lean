/- decoded, with how long the lists are that come out. -/
import Derived.Test.YtblhmeidbjigaabGreatDoorRows
import Derived.WalkKit
import Derived.WalkSpells
import Derived.WalkLawsBesides
import Derived.Laws.BytesArg
import Derived.Deep.QuietTactic
import Derived.BigQuiet
import Derived.Deep.RegionHeld3
import Derived.Maps.AppendAt
import Derived.StillTailTactics
import Derived.Test.YtblhmeidbjigaabGreatDoorRTwEToAStAAll

set_option linter.unusedSimpArgs false
set_option linter.unusedVariables false
namespace Go.Proofs.YtblhmeidbjigaabGreatDoor
open Go.RowKit

set_option maxRecDepth 100000 in
set_option maxHeartbeats 4000000 in
theorem ownProg2_any (a0 a1 a2 a3 : Int) (v : Value) (hv : List (BlockD × Value)) (w : World) (base : Nat) (mark : Int) (hown : OwnBlocks w base v hv) (hbs : base ≤ w.heap.size) (hl : hv.length ≤ 1000) (hl2 : ∀ x ∈ hv, x.1.ops.length ≤ 1000) (hm : 0 ≤ mark ∧ mark ≤ 4611686018427387904)
    (S : Nat → Prop) (hSv : ∀ g, v.ownBlock = some g → S g) (hSx : ∀ x ∈ hv, ∀ g, x.2.ownBlock = some g → S g) :
    Calls Tryz.prog 74 #[.agg #[.int .i64 a0, .int .i64 a1, .int .i64 a2, .int .i64 a3, v], .int .i64 mark] w fun e w' => e = .returned (.bool true) ∧ (∃ hv', OwnBlocks w' base v hv' ∧ hv'.length ≤ 1000 ∧ ∀ x ∈ hv', x.1.ops.length ≤ 1000) ∧ Keep S w w' := by
  obtain ⟨ao, cap, rfl⟩ := owns_slice hown.row
  go_enter Tryz.func74, Tryz.ntmps74
  go_wp2
  go_loopw [5] (fun i wr => ∃ (k : Nat) (hu : List (BlockD × Value)), k ≤ hv.length ∧ i = .int .i64 k ∧ Hid (hu.length = hv.length) ∧ Hid (∀ x ∈ hu, x.1.ops.length ≤ 1000) ∧ Hid (∀ x ∈ hu, ∀ g, x.2.ownBlock = some g → g < w.heap.size ∧ S g) ∧ MkdP mark k hu ∧ OwnBlocks wr base (.slice ao hv.length cap) hu ∧ wr.cell? ⟨w.heap.size, 4, none⟩ = some (.slice ao hv.length cap) ∧ Keep S w wr ∧ w.heap.size + 1 ≤ wr.heap.size)
    (fun i _ => hv.length - (intOf i).toNat)
  case atStart => exact ⟨0, hv, Nat.zero_le _, rfl, rfl, hl2, fun x hx g hg => ⟨((hown.each x hx).lt g hg).2, hSx x hx g hg⟩, fun i hi h0 => by omega, hown.alloc _, by simp, (Keep.refl _ _).alloc _, by simp⟩
  case round =>
    obtain ⟨k, hu, hk, rfl, hlen, hlp, hlo, hmk, ho, hx0, hbel, hz⟩ := hrel
    have hzl : w.heap.size < wr.heap.size := by omega
    by_cases hlt : k < hv.length
    case neg =>
      obtain ⟨wo, hwo⟩ : ∃ wo, wo = wr := ⟨_, rfl⟩
      subst hwo
      have hmk0 : MkdP mark hu.length hu := fun i hi _ => hmk i hi (by have := hlen.out; omega)
      go_wp2
      clear hmk hown
      go_loop [7] (fun i => ∃ (j : Nat), j ≤ hv.length ∧ i = .int .i64 j) (fun i => hv.length - (intOf i).toNat)
      case atStart => exact ⟨0, Nat.zero_le _, rfl⟩
      case round =>
        obtain ⟨j, hj, rfl⟩ := hrel
        by_cases hjl : j < hv.length
        case neg =>
          go_wp2
          go_ret
          exact ⟨rfl, ⟨_, ho, (by rw [hlen.out]; exact hl), (by first | exact hlp.out | exact fun a b h => hlp.out (a, b) h)⟩, hbel⟩
        have hju : j < hu.length := by rw [hlen.out]; exact hjl
        obtain ⟨b, rfl, hbb, c2, c1, c3, c4, c5, cf⟩ := ownBlocks_at ho hju
        have hrow := ho.each _ (List.getElem_mem hju)
        have hpl := hlp.out _ (List.getElem_mem hju)
        have hmj := hmk0 j hju hju
        rw [hmj.1] at c1
        have hmp : Hid (∀ i, i < hu[j].1.ops.length → okind hu[j].1.ops i = mark + j) := hmj.2
        obtain ⟨so, sc, hsv⟩ := owns_slice hrow
        rw [hsv] at c2 hrow
        clear hmj hsv
        generalize hu[j].1.ops = ps at *
        have hnq : (mark + (j : Int) != mark + (j : Int)) = false := by simp
        go_wp2
        go_loop [8] (fun i => ∃ (m : Nat), m ≤ ps.length ∧ i = .int .i64 m) (fun i => ps.length - (intOf i).toNat)
        case atStart => exact ⟨0, Nat.zero_le _, rfl⟩
        case round =>
          obtain ⟨m, hmn, rfl⟩ := hrel
          by_cases hml : m < ps.length
          · obtain ⟨g, rfl, hgb, d1, d2, d3, d4, df⟩ := owns_ops_at hrow hml
            rw [hmp.out m hml] at d1
            go_wp2
            go_round
            case rel => exact ⟨m + 1, by omega, by go_num⟩
            case measure => simp [intOf]; omega
          · go_wp2
            go_round
            case rel => exact ⟨j + 1, by omega, by go_num⟩
            case measure => simp [intOf]; omega
    obtain ⟨wo, hwo⟩ : ∃ wo, wo = wr := ⟨_, rfl⟩
    subst hwo
    have hku : k < hu.length := by rw [hlen.out]; exact hlt
    obtain ⟨b, rfl, hbb, c2, c1, c3, c4, c5, cf⟩ := ownBlocks_at ho hku
    have hbw : b < w.heap.size := ((hown.row).lt b rfl).2
    have cf1 := cf (k * 5 + 1)
    have cf2 := cf (k * 5 + 2)
    have cf3 := cf (k * 5 + 3)
    have cf4 := cf (k * 5 + 4)
    have ho1 := ho.setEnd hku (mark + k) 0 0 0
    have hmk1 := hmk.set (⟨hu[k].1.ops, ⟨mark + k, 0, 0, 0⟩⟩, hu[k].2)
    have hlen1 : Hid ((hu.set k (⟨hu[k].1.ops, ⟨mark + k, 0, 0, 0⟩⟩, hu[k].2)).length = hv.length) := by show List.length _ = _; rw [List.length_set]; exact hlen.out
    have hlp1 : Hid (∀ x ∈ hu.set k (⟨hu[k].1.ops, ⟨mark + k, 0, 0, 0⟩⟩, hu[k].2), x.1.ops.length ≤ 1000) := by
      intro x hx
      rcases List.mem_or_eq_of_mem_set hx with hx | rfl
      · exact hlp.out x hx
      · exact hlp.out hu[k] (List.getElem_mem hku)
    have hlo1 : Hid (∀ x ∈ hu.set k (⟨hu[k].1.ops, ⟨mark + k, 0, 0, 0⟩⟩, hu[k].2), ∀ g, x.2.ownBlock = some g → g < w.heap.size ∧ S g) := by
      intro x hx
      rcases List.mem_or_eq_of_mem_set hx with hx | rfl
      · exact hlo.out x hx
      · exact hlo.out hu[k] (List.getElem_mem hku)
    have hsk : Hid (bek (bdat (hu.set k (⟨hu[k].1.ops, ⟨mark + k, 0, 0, 0⟩⟩, hu[k].2))) k = mark + k) := by
      show bek _ _ = _
      unfold bek
      rw [(bdat_get _ (by rw [List.length_set]; exact hku)).2, List.getElem_set_self]
    have hx1 : (set4 wo b (k * 5 + 1) (mark + k) 0 0 0).cell? ⟨w.heap.size, 4, none⟩ = some (.slice (some ⟨b, 0, none⟩) hv.length cap) := cell_unset4 (by simp; omega) hx0
    have hb1 := hbel.set4 (o := k * 5 + 1) (.inl (hSv b rfl)) (mark + k) 0 0 0
    have hz1 : w.heap.size + 1 ≤ (set4 wo b (k * 5 + 1) (mark + k) 0 0 0).heap.size := by rw [set4_size]; exact hz
    have HW : Hid (set4 wo b (k * 5 + 1) (mark + k) 0 0 0 = (((wo.setCell ⟨b, k * 5 + 1, none⟩ (.int .i64 (mark + k))).setCell ⟨b, k * 5 + 2, none⟩ (.int .i64 0)).setCell ⟨b, k * 5 + 3, none⟩ (.int .i64 0)).setCell ⟨b, k * 5 + 4, none⟩ (.int .i64 0)) := rfl
    go_wp2
    rw [← HW.out]
    clear HW
    generalize hu.set k (⟨hu[k].1.ops, ⟨mark + k, 0, 0, 0⟩⟩, hu[k].2) = h1 at *
    generalize set4 wo b (k * 5 + 1) (mark + k) 0 0 0 = w1 at *
    clear hmk hlen hlp hlo ho hx0 hbel hz hzl hku c1 c2 c3 c4 c5 cf cf1 cf2 cf3 cf4 hu wo
    go_loopw [6] (fun i w2 => ∃ (j : Nat) (hu : List (BlockD × Value)), j ≤ 1000 ∧ i = .int .i64 j ∧ Hid (hu.length = hv.length) ∧ Hid (∀ x ∈ hu, x.1.ops.length ≤ 1000) ∧ Hid (∀ x ∈ hu, ∀ g, x.2.ownBlock = some g → g < w.heap.size ∧ S g) ∧ MkdP mark k hu ∧ Hid (bek (bdat hu) k = mark + k) ∧ Hid (j ≤ (bops (bdat hu) k).length ∧ ∀ i, i < j → okind (bops (bdat hu) k) i = mark + k) ∧
        OwnBlocks w2 base (.slice (some ⟨b, 0, none⟩) hv.length cap) hu ∧ w2.cell? ⟨w.heap.size, 4, none⟩ = some (.slice (some ⟨b, 0, none⟩) hv.length cap) ∧ Keep S w w2 ∧ w.heap.size + 1 ≤ w2.heap.size)
      (fun i _ => 1000 - (intOf i).toNat)
    case atStart => exact ⟨0, h1, by omega, rfl, hlen1, hlp1, hlo1, hmk1, hsk, ⟨Nat.zero_le _, fun i hi => by omega⟩, ho1, hx1, hb1, hz1⟩
    case round =>
      clear hlen1 hlp1 hlo1 hmk1 hsk ho1 hx1 hb1 hz1
      obtain ⟨j, hu, hj, rfl, hlen, hlp, hlo, hmk, hsk, hpj, ho, hx0, hbel, hz⟩ := hrel
      have hku : k < hu.length := by rw [hlen.out]; exact hlt
      have hzl : w.heap.size < wr.heap.size := by omega
      obtain ⟨b', e0, _, c2, c1, c3, c4, c5, cf⟩ := ownBlocks_at ho hku
      simp only [Option.some.injEq, Addr.mk.injEq, and_true] at e0
      obtain rfl := e0
      have hrow := ho.each _ (List.getElem_mem hku)
      have hpl := hlp.out _ (List.getElem_mem hku)
      have hlok := hlo.out _ (List.getElem_mem hku)
      have HE : Hid (bops (bdat hu) k = hu[k].1.ops ∧ bfin (bdat hu) k = hu[k].1.fin) := bdat_get hu hku
      obtain ⟨so, sc, hsv⟩ := owns_slice hrow
      have hpj' : Hid (j ≤ hu[k].1.ops.length ∧ ∀ i, i < j → okind hu[k].1.ops i = mark + k) := by have := hpj.out; rw [HE.out.1] at this; exact this
      have hsk' : Hid (hu[k].1.fin.kind = mark + k) := by have := hsk.out; unfold bek at this; rw [HE.out.2] at this; exact this
      have HSV : Hid (hu[k].2 = .slice so hu[k].1.ops.length sc) := hsv
      rw [hsv] at c2
      obtain ⟨n, hn⟩ : ∃ n, n = hu[k].1.ops.length := ⟨_, rfl⟩
      rw [← hn] at c2
      have HN : Hid (n = hu[k].1.ops.length) := hn
      have hn1000 : n ≤ 1000 := by rw [hn]; exact hpl
      by_cases hjn : j < n
      case neg =>
        have hmk' : MkdP mark (k + 1) hu := by
          intro i hi hik
          by_cases e : i = k
          · subst e
            exact ⟨hsk'.out, fun i' hi' => hpj'.out.2 i' (by omega)⟩
          · exact hmk i hi (by omega)
        clear hsv hn hpj hsk hpj' hsk' hmk HE HSV HN hrow
        go_wp2
        go_roundw
        case rel => exact ⟨k + 1, hu, by omega, by go_num, hlen, hlp, hlo, hmk', ho, hx0, hbel, hz⟩
        case measure => simp [intOf]; omega
      have hrow2 : wr.ownsRow base 36 4 (.slice so n sc) hu[k].1.ops.length (opCells hu[k].1.ops) := by rw [hsv, ← hn] at hrow; rw [← hn]; exact hrow
      obtain ⟨g, rfl, hgb, d1, d2, d3, d4, df⟩ := owns_ops_at hrow2 (j := j) (by omega)
      have df0 := df (j * 4)
      have df1 := df (j * 4 + 1)
      have df2 := df (j * 4 + 2)
      have df3 := df (j * 4 + 3)
      have hgo : hu[k].2.ownBlock = some g := by rw [hsv]; rfl
      have hgw : g < w.heap.size := (hlok g hgo).1
      have hgS := (hlok g hgo).2
      have ho' := ho.setOp hku hgo (j := j) (by omega) (mark + k) 0 0 0
      have hmk' := hmk.set (⟨hu[k].1.ops.set j ⟨mark + k, 0, 0, 0⟩, hu[k].1.fin⟩, hu[k].2)
      have hlen' : Hid ((hu.set k (⟨hu[k].1.ops.set j ⟨mark + k, 0, 0, 0⟩, hu[k].1.fin⟩, hu[k].2)).length = hv.length) := by show List.length _ = _; rw [List.length_set]; exact hlen.out
      have hlp' : Hid (∀ x ∈ hu.set k (⟨hu[k].1.ops.set j ⟨mark + k, 0, 0, 0⟩, hu[k].1.fin⟩, hu[k].2), x.1.ops.length ≤ 1000) := by
        intro x hx
        rcases List.mem_or_eq_of_mem_set hx with hx | rfl
        · exact hlp.out x hx
        · show List.length (List.set _ _ _) ≤ 1000
          rw [List.length_set]; exact hpl
      have hlo' : Hid (∀ x ∈ hu.set k (⟨hu[k].1.ops.set j ⟨mark + k, 0, 0, 0⟩, hu[k].1.fin⟩, hu[k].2), ∀ g, x.2.ownBlock = some g → g < w.heap.size ∧ S g) := by
        intro x hx
        rcases List.mem_or_eq_of_mem_set hx with hx | rfl
        · exact hlo.out x hx
        · exact hlok
      have hq := bdat_get (hu.set k (⟨hu[k].1.ops.set j ⟨mark + k, 0, 0, 0⟩, hu[k].1.fin⟩, hu[k].2)) (i := k) (by rw [List.length_set]; exact hku)
      rw [List.getElem_set_self] at hq
      have hsk2 : Hid (bek (bdat (hu.set k (⟨hu[k].1.ops.set j ⟨mark + k, 0, 0, 0⟩, hu[k].1.fin⟩, hu[k].2))) k = mark + k) := by show bek _ _ = _; unfold bek; rw [hq.2]; exact hsk'.out
      have hpj2 : Hid (j + 1 ≤ (bops (bdat (hu.set k (⟨hu[k].1.ops.set j ⟨mark + k, 0, 0, 0⟩, hu[k].1.fin⟩, hu[k].2))) k).length ∧ ∀ i, i < j + 1 → okind (bops (bdat (hu.set k (⟨hu[k].1.ops.set j ⟨mark + k, 0, 0, 0⟩, hu[k].1.fin⟩, hu[k].2))) k) i = mark + k) := by
        show _ ∧ _
        rw [hq.1]
        refine ⟨by simp only [List.length_set]; omega, fun i hi => ?_⟩
        by_cases e : i = j
        · subst e
          simp [okind, List.getD, show i < hu[k].1.ops.length by omega]
        · have := hpj'.out.2 i (by omega)
          simp only [okind, List.getD, List.getElem?_set_ne (fun h => e h.symm)] at this ⊢
          exact this
      have hx1 : (set4 wr g (j * 4) (mark + k) 0 0 0).cell? ⟨w.heap.size, 4, none⟩ = some (.slice (some ⟨b, 0, none⟩) hv.length cap) := cell_unset4 (by simp; omega) hx0
      have hb1 := hbel.set4 (o := j * 4) (.inl hgS) (mark + k) 0 0 0
      have hz1 : w.heap.size + 1 ≤ (set4 wr g (j * 4) (mark + k) 0 0 0).heap.size := by rw [set4_size]; exact hz
      have HW : Hid (set4 wr g (j * 4) (mark + k) 0 0 0 = (((wr.setCell ⟨g, j * 4, none⟩ (.int .i64 (mark + k))).setCell ⟨g, j * 4 + 1, none⟩ (.int .i64 0)).setCell ⟨g, j * 4 + 2, none⟩ (.int .i64 0)).setCell ⟨g, j * 4 + 3, none⟩ (.int .i64 0)) := rfl
      generalize hu.set k (⟨hu[k].1.ops.set j ⟨mark + k, 0, 0, 0⟩, hu[k].1.fin⟩, hu[k].2) = h2 at *
      clear hsv hn hpj hsk hpj' hsk' hmk HE HSV HN hrow hrow2 hq ho hlen hlp hlo
      go_wp2
      rw [← HW.out]
      clear HW
      generalize set4 wr g (j * 4) (mark + k) 0 0 0 = w3 at *
      go_roundw
      case rel => exact ⟨j + 1, h2, by omega, by go_num, hlen', hlp', hlo', hmk', hsk2, hpj2, ho', hx1, hb1, hz1⟩
      case measure => simp [intOf]; omega

set_option maxRecDepth 100000 in
set_option maxHeartbeats 8000000 in
theorem decoded2_cps (s : ByteArray) (k : Int) (w : World) (hs : s.size ≤ maxLen) (hk : 0 ≤ k ∧ k ≤ 4611686018427387) (Post : Ending → World → Prop)
    (hpost : ∀ a0 a1 a2 a3 v bv w', OwnBlocks w' w.heap.size v bv → (bv.length ≤ 1000 ∧ ∀ x ∈ bv, x.1.ops.length ≤ 1000) → Below w.heap.size w w' → Post (.returned (.tuple #[.agg #[.int .i64 a0, .int .i64 a1, .int .i64 a2, .int .i64 a3, v], .bool true])) w') :
    Calls Tryz.prog 39 #[.string s, .int .i64 k] w Post := by
  have HP : Hid (∀ a0 a1 a2 a3 v bv w', OwnBlocks w' w.heap.size v bv → (bv.length ≤ 1000 ∧ ∀ x ∈ bv, x.1.ops.length ≤ 1000) → Below w.heap.size w w' → Post (.returned (.tuple #[.agg #[.int .i64 a0, .int .i64 a1, .int .i64 a2, .int .i64 a3, v], .bool true])) w') := hpost
  clear hpost
  have R0 : Row (w.alloc (.cells #[.int .i64 0, .int .i64 0, .int .i64 0, .int .i64 0, .slice none 0 0] 25)) w.heap.size 25 [.int .i64 0, .int .i64 0, .int .i64 0, .int .i64 0, .slice none 0 0] := heap_alloc_new w _
  go_enter Tryz.func39, Tryz.ntmps39
  go_wp2_with fail
  refine tDecode_cps s _ hs _ ?_ ?_
  · intro a0 a1 a2 a3 l v1 bv1 w1 own1 hd1 g1 ht1 hb1
    have hsm1 := good_smallP (p := ⟨a0, a1, a2, a3, l⟩) hd1 g1
    have hb1' : Below (w.heap.size + 1) (w.alloc (.cells #[.int .i64 0, .int .i64 0, .int .i64 0, .int .i64 0, .slice none 0 0] 25)) w1 := by simpa using hb1
    have hz1 := hb1'.size
    simp at hz1
    have R1 := R0.keep hb1
    have hb01 := Below.under hb1'
    have hzl : w.heap.size < w1.heap.size := by omega
    clear hb1
    obtain ⟨ao1, c1, rfl⟩ := owns_slice own1.row
    have own1 : OwnBlocks w1 (w.heap.size + 1) (.slice ao1 bv1.length c1) bv1 := by simpa using own1
    have V1 : Row (w1.alloc (.cells #[.int .i64 a0, .int .i64 a1, .int .i64 a2, .int .i64 a3, .slice ao1 bv1.length c1] 25)) w1.heap.size 25 [.int .i64 a0, .int .i64 a1, .int .i64 a2, .int .i64 a3, .slice ao1 bv1.length c1] := heap_alloc_new w1 _
    have hc := rDecode_any s (w1.alloc (.cells #[.int .i64 a0, .int .i64 a1, .int .i64 a2, .int .i64 a3, .slice ao1 bv1.length c1] 25)) hs
    go_wp2_with fail
    refine hc.mono ?_
    clear hc
    rintro e w2 ⟨hor, hb2⟩
    have V1 := V1.keep hb2
    have hb2' : Below (w1.heap.size + 1) (w1.alloc (.cells #[.int .i64 a0, .int .i64 a1, .int .i64 a2, .int .i64 a3, .slice ao1 bv1.length c1] 25)) w2 := by simpa using hb2
    clear hb2
    rcases hor with ⟨⟨b0, b1, b2, b3, l2⟩, v2, bv2, rfl, own2, hd2, g2, ht2⟩ | ⟨hno2, rfl⟩
    case inr => exact absurd ht1 (hno2 _ g1)
    obtain ⟨ao2, c2, rfl⟩ := owns_slice own2.row
    have own2 : OwnBlocks w2 (w1.heap.size + 1) (.slice ao2 bv2.length c2) bv2 := by simpa using own2
    have hsame := prog_one g1 g2 (ht1.trans ht2.symm)
    simp only [ProgD.mk.injEq] at hsame
    obtain ⟨rfl, rfl, rfl, rfl, rfl⟩ := hsame
    simp only at hd2
    clear ht1 ht2 g1 g2
    have hz2 := hb2'.size
    simp at hz2
    have hb12 := Below.under hb2'
    have R2 := R1.keep hb12
    have own1' := own1.below hb12 (Nat.le_refl _)
    have hzl2 : w1.heap.size < w2.heap.size := by omega
    have hzl3 : w.heap.size < w2.heap.size := by omega
    have hbA : Below w2.heap.size w2 (w2.alloc (.cells #[.int .i64 a0, .int .i64 a1, .int .i64 a2, .int .i64 a3, .slice ao2 bv2.length c2] 25)) := (Below.refl _ _).alloc (Nat.le_refl _) _
    have V2 : Row (w2.alloc (.cells #[.int .i64 a0, .int .i64 a1, .int .i64 a2, .int .i64 a3, .slice ao2 bv2.length c2] 25)) w2.heap.size 25 [.int .i64 a0, .int .i64 a1, .int .i64 a2, .int .i64 a3, .slice ao2 bv2.length c2] := heap_alloc_new w2 _
    have rd1 := (own1'.alloc (.cells #[.int .i64 a0, .int .i64 a1, .int .i64 a2, .int .i64 a3, .slice ao2 bv2.length c2] 25)).rd
    have rd2 := (own2.alloc (.cells #[.int .i64 a0, .int .i64 a1, .int .i64 a2, .int .i64 a3, .slice ao2 bv2.length c2] 25)).rd
    rw [hd1] at rd1
    rw [hd2] at rd2
    have x0 := V1.cell (i := 0) rfl
    have x1 := V1.cell (i := 1) rfl
    have x2 := V1.cell (i := 2) rfl
    have x3 := V1.cell (i := 3) rfl
    have x4 := V1.cell (i := 4) rfl
    unfold progV
    go_wp2_with fail
    refine (sameProg_any a0 a1 a2 a3 _ _ _ _ rd1 rd2).mono ?_
    rintro e w3 ⟨rfl, hb3⟩
    have V2 := V2.keep hb3
    have hb3' : Below (w2.heap.size + 1) (w2.alloc (.cells #[.int .i64 a0, .int .i64 a1, .int .i64 a2, .int .i64 a3, .slice ao2 bv2.length c2] 25)) w3 := by simpa using hb3
    clear hb3 rd1 rd2 hbA x0 x1 x2 x3 x4
    have hb23 := Below.under hb3'
    have hz3 := hb3'.size
    simp at hz3
    have V1 := V1.keep hb23
    have R3 := R2.keep hb23
    have o31 := own1'.below hb23 (Nat.le_refl _)
    have o32 := own2.below hb23 (Nat.le_refl _)
    have hS : ∀ g, bblk (.slice ao1 bv1.length c1) bv1 g → w.heap.size + 1 ≤ g ∧ g < w1.heap.size := fun g hg => bblk_lt own1 g hg
    have hSv : ∀ g, (Value.slice ao1 bv1.length c1).ownBlock = some g → bblk (.slice ao1 bv1.length c1) bv1 g := fun g hg => .inl hg
    have hSx : ∀ x ∈ (bv1 : List (BlockD × Value)), ∀ g, x.2.ownBlock = some g → bblk (.slice ao1 bv1.length c1) bv1 g := fun x hx g hg => .inr ⟨x, hx, hg⟩
    have hn1 : ¬ bblk (.slice ao1 bv1.length c1) bv1 w1.heap.size := fun h => by have := hS _ h; omega
    have hn2 : ¬ bblk (.slice ao1 bv1.length c1) bv1 w2.heap.size := fun h => by have := hS _ h; omega
    have hn0 : ¬ bblk (.slice ao1 bv1.length c1) bv1 w.heap.size := fun h => by have := hS _ h; omega
    have hbh := behindProg_any a0 a1 a2 a3 (.slice ao1 bv1.length c1) bv1 w3 (w.heap.size + 1) o31 (by omega) hsm1.1 hsm1.2 (bblk (.slice ao1 bv1.length c1) bv1) hSv hSx
    have x0 := V1.cell (i := 0) rfl
    have x1 := V1.cell (i := 1) rfl
    have x2 := V1.cell (i := 2) rfl
    have x3 := V1.cell (i := 3) rfl
    have x4 := V1.cell (i := 4) rfl
    go_wp2_with fail
    refine hbh.mono ?_
    clear hbh
    rintro e w4 ⟨rfl, o41, hk4⟩
    have V1 := V1.kept hk4 hn1
    have V2 := V2.kept hk4 hn2
    have R4 := R3.kept hk4 hn0
    have o42 := o32.apartFrom hk4 (fun g hg => by have := hS g hg; omega)
    have hz4 := hk4.size
    have rd1 := o41.rd
    have rd2 := o42.rd
    rw [hd1] at rd1
    rw [hd2] at rd2
    clear x0 x1 x2 x3 x4
    have x0 := V1.cell (i := 0) rfl
    have x1 := V1.cell (i := 1) rfl
    have x2 := V1.cell (i := 2) rfl
    have x3 := V1.cell (i := 3) rfl
    have x4 := V1.cell (i := 4) rfl
    have y0 := V2.cell (i := 0) rfl
    have y1 := V2.cell (i := 1) rfl
    have y2 := V2.cell (i := 2) rfl
    have y3 := V2.cell (i := 3) rfl
    have y4 := V2.cell (i := 4) rfl
    go_wp2_with fail
    refine (sameProg_any a0 a1 a2 a3 _ _ _ _ rd1 rd2).mono ?_
    rintro e w5 ⟨rfl, hb5⟩
    have V1 := V1.keep hb5
    have R5 := R4.keep hb5
    have o51 := o41.below hb5 (Nat.le_refl _)
    have hz5 := hb5.size
    have hoh := ownProg2_any a0 a1 a2 a3 (.slice ao1 bv1.length c1) bv1 w5 (w.heap.size + 1) (77 + 100 * k) o51 (by omega) hsm1.1 hsm1.2 (by omega) (bblk (.slice ao1 bv1.length c1) bv1) hSv hSx
    clear rd1 rd2 x0 x1 x2 x3 x4 y0 y1 y2 y3 y4
    have x0 := V1.cell (i := 0) rfl
    have x1 := V1.cell (i := 1) rfl
    have x2 := V1.cell (i := 2) rfl
    have x3 := V1.cell (i := 3) rfl
    have x4 := V1.cell (i := 4) rfl
    go_wp2_with fail
    refine hoh.mono ?_
    clear hoh
    rintro e w6 ⟨rfl, ⟨bv6, o61, l61⟩, hk6⟩
    have V1 := V1.kept hk6 hn1
    have R6 := R5.kept hk6 hn0
    have B3 := hb01.trans (hb12.mono (by omega)) |>.trans (hb23.mono (by omega))
    have B4 := B3.trans ((hk4.toBelow (B := w.heap.size) (by omega) (fun g hg => by have := hS g hg; omega)))
    have B6 := (B4.trans (hb5.mono (by omega))).trans ((hk6.toBelow (B := w.heap.size) (by omega) (fun g hg => by have := hS g hg; omega)))
    have hfin := HP.out a0 a1 a2 a3 (.slice ao1 bv1.length c1) bv6 (((((w6.setCell ⟨w.heap.size, 0, none⟩ (.int .i64 a0)).setCell ⟨w.heap.size, 1, none⟩ (.int .i64 a1)).setCell ⟨w.heap.size, 2, none⟩ (.int .i64 a2)).setCell ⟨w.heap.size, 3, none⟩ (.int .i64 a3)).setCell ⟨w.heap.size, 4, none⟩ (.slice ao1 bv1.length c1))
      ((((((o61.set (by simp) _).set (by simp) _).set (by simp) _).set (by simp) _).set (by simp) _).base (by omega)) l61 (((((B6.setCell (by simp) _).setCell (by simp) _).setCell (by simp) _).setCell (by simp) _).setCell (by simp) _)
    clear hk6 hk4 o41 o42 o51 o61 o31 o32 own1 own2 own1' B3 B4 B6 HP hSv hSx x0 x1 x2 x3 x4
    have x0 := V1.cell (i := 0) rfl
    have x1 := V1.cell (i := 1) rfl
    have x2 := V1.cell (i := 2) rfl
    have x3 := V1.cell (i := 3) rfl
    have x4 := V1.cell (i := 4) rfl
    have r0 := R6.cell (i := 0) rfl
    have r1 := R6.cell (i := 1) rfl
    have r2 := R6.cell (i := 2) rfl
    have r3 := R6.cell (i := 3) rfl
    have r4 := R6.cell (i := 4) rfl
    have f0 := R6.frozen 0
    have f1 := R6.frozen 1
    have f2 := R6.frozen 2
    have f3 := R6.frozen 3
    have f4 := R6.frozen 4
    go_wp2
    exact bodyPost_ret (v := .tuple #[.agg #[.int .i64 a0, .int .i64 a1, .int .i64 a2, .int .i64 a3, .slice ao1 bv1.length c1], .bool true]) (by simp [results, Tryz.results39, go_sem, r0, r1, r2, r3, r4]) rfl hfin
  · intro w1 hno1 hb1
    have hsm1 : ([] : List (BlockD × Value)).length ≤ 1000 ∧ ∀ x ∈ ([] : List (BlockD × Value)), x.1.ops.length ≤ 1000 := ⟨by simp, fun x hx => by cases hx⟩
    have hd1 : bdat [] = [] := rfl
    have hb1' : Below (w.heap.size + 1) (w.alloc (.cells #[.int .i64 0, .int .i64 0, .int .i64 0, .int .i64 0, .slice none 0 0] 25)) w1 := by simpa using hb1
    have hz1 := hb1'.size
    simp at hz1
    have R1 := R0.keep hb1
    have hb01 := Below.under hb1'
    have hzl : w.heap.size < w1.heap.size := by omega
    clear hb1
    have own1 : OwnBlocks w1 (w.heap.size + 1) (.slice none 0 0) [] := ownBlocks_nil _ _
    have V1 : Row (w1.alloc (.cells #[.int .i64 0, .int .i64 0, .int .i64 0, .int .i64 0, .slice none 0 0] 25)) w1.heap.size 25 [.int .i64 0, .int .i64 0, .int .i64 0, .int .i64 0, .slice none 0 0] := heap_alloc_new w1 _
    have hc := rDecode_any s (w1.alloc (.cells #[.int .i64 0, .int .i64 0, .int .i64 0, .int .i64 0, .slice none 0 0] 25)) hs
    go_wp2_with fail
    refine hc.mono ?_
    clear hc
    rintro e w2 ⟨hor, hb2⟩
    have V1 := V1.keep hb2
    have hb2' : Below (w1.heap.size + 1) (w1.alloc (.cells #[.int .i64 0, .int .i64 0, .int .i64 0, .int .i64 0, .slice none 0 0] 25)) w2 := by simpa using hb2
    clear hb2
    rcases hor with ⟨p2, v2, bv2, rfl, own2, hd2, g2, ht2⟩ | ⟨hno2, rfl⟩
    case inl => exact absurd ht2 (hno1 _ g2)
    have own2 : OwnBlocks w2 (w1.heap.size + 1) (.slice none 0 0) [] := ownBlocks_nil _ _
    have hd2 : bdat [] = [] := rfl
    clear hno1 hno2
    have hz2 := hb2'.size
    simp at hz2
    have hb12 := Below.under hb2'
    have R2 := R1.keep hb12
    have own1' := own1.below hb12 (Nat.le_refl _)
    have hzl2 : w1.heap.size < w2.heap.size := by omega
    have hzl3 : w.heap.size < w2.heap.size := by omega
    have hbA : Below w2.heap.size w2 (w2.alloc (.cells #[.int .i64 0, .int .i64 0, .int .i64 0, .int .i64 0, .slice none 0 0] 25)) := (Below.refl _ _).alloc (Nat.le_refl _) _
    have V2 : Row (w2.alloc (.cells #[.int .i64 0, .int .i64 0, .int .i64 0, .int .i64 0, .slice none 0 0] 25)) w2.heap.size 25 [.int .i64 0, .int .i64 0, .int .i64 0, .int .i64 0, .slice none 0 0] := heap_alloc_new w2 _
    have rd1 := (own1'.alloc (.cells #[.int .i64 0, .int .i64 0, .int .i64 0, .int .i64 0, .slice none 0 0] 25)).rd
    have rd2 := (own2.alloc (.cells #[.int .i64 0, .int .i64 0, .int .i64 0, .int .i64 0, .slice none 0 0] 25)).rd
    have x0 := V1.cell (i := 0) rfl
    have x1 := V1.cell (i := 1) rfl
    have x2 := V1.cell (i := 2) rfl
    have x3 := V1.cell (i := 3) rfl
    have x4 := V1.cell (i := 4) rfl
    go_wp2_with fail
    refine (sameProg_any 0 0 0 0 _ _ _ _ rd1 rd2).mono ?_
    rintro e w3 ⟨rfl, hb3⟩
    have V2 := V2.keep hb3
    have hb3' : Below (w2.heap.size + 1) (w2.alloc (.cells #[.int .i64 0, .int .i64 0, .int .i64 0, .int .i64 0, .slice none 0 0] 25)) w3 := by simpa using hb3
    clear hb3 rd1 rd2 hbA x0 x1 x2 x3 x4
    have hb23 := Below.under hb3'
    have hz3 := hb3'.size
    simp at hz3
    have V1 := V1.keep hb23
    have R3 := R2.keep hb23
    have o31 := own1'.below hb23 (Nat.le_refl _)
    have o32 := own2.below hb23 (Nat.le_refl _)
    have hS : ∀ g, bblk (.slice none 0 0) [] g → w.heap.size + 1 ≤ g ∧ g < w1.heap.size := fun g hg => bblk_lt own1 g hg
    have hSv : ∀ g, (Value.slice none 0 0).ownBlock = some g → bblk (.slice none 0 0) [] g := fun g hg => .inl hg
    have hSx : ∀ x ∈ ([] : List (BlockD × Value)), ∀ g, x.2.ownBlock = some g → bblk (.slice none 0 0) [] g := fun x hx g hg => .inr ⟨x, hx, hg⟩
    have hn1 : ¬ bblk (.slice none 0 0) [] w1.heap.size := fun h => by have := hS _ h; omega
    have hn2 : ¬ bblk (.slice none 0 0) [] w2.heap.size := fun h => by have := hS _ h; omega
    have hn0 : ¬ bblk (.slice none 0 0) [] w.heap.size := fun h => by have := hS _ h; omega
    have hbh := behindProg_any 0 0 0 0 (.slice none 0 0) [] w3 (w.heap.size + 1) o31 (by omega) hsm1.1 hsm1.2 (bblk (.slice none 0 0) []) hSv hSx
    have x0 := V1.cell (i := 0) rfl
    have x1 := V1.cell (i := 1) rfl
    have x2 := V1.cell (i := 2) rfl
    have x3 := V1.cell (i := 3) rfl
    have x4 := V1.cell (i := 4) rfl
    go_wp2_with fail
    refine hbh.mono ?_
    clear hbh
    rintro e w4 ⟨rfl, o41, hk4⟩
    have V1 := V1.kept hk4 hn1
    have V2 := V2.kept hk4 hn2
    have R4 := R3.kept hk4 hn0
    have o42 := o32.apartFrom hk4 (fun g hg => by have := hS g hg; omega)
    have hz4 := hk4.size
    have rd1 := o41.rd
    have rd2 := o42.rd
    clear x0 x1 x2 x3 x4
    have x0 := V1.cell (i := 0) rfl
    have x1 := V1.cell (i := 1) rfl
    have x2 := V1.cell (i := 2) rfl
    have x3 := V1.cell (i := 3) rfl
    have x4 := V1.cell (i := 4) rfl
    have y0 := V2.cell (i := 0) rfl
    have y1 := V2.cell (i := 1) rfl
    have y2 := V2.cell (i := 2) rfl
    have y3 := V2.cell (i := 3) rfl
    have y4 := V2.cell (i := 4) rfl
    go_wp2_with fail
    refine (sameProg_any 0 0 0 0 _ _ _ _ rd1 rd2).mono ?_
    rintro e w5 ⟨rfl, hb5⟩
    have V1 := V1.keep hb5
    have R5 := R4.keep hb5
    have o51 := o41.below hb5 (Nat.le_refl _)
    have hz5 := hb5.size
    have hoh := ownProg2_any 0 0 0 0 (.slice none 0 0) [] w5 (w.heap.size + 1) (77 + 100 * k) o51 (by omega) hsm1.1 hsm1.2 (by omega) (bblk (.slice none 0 0) []) hSv hSx
    clear rd1 rd2 x0 x1 x2 x3 x4 y0 y1 y2 y3 y4
    have x0 := V1.cell (i := 0) rfl
    have x1 := V1.cell (i := 1) rfl
    have x2 := V1.cell (i := 2) rfl
    have x3 := V1.cell (i := 3) rfl
    have x4 := V1.cell (i := 4) rfl
    go_wp2_with fail
    refine hoh.mono ?_
    clear hoh
    rintro e w6 ⟨rfl, ⟨bv6, o61, l61⟩, hk6⟩
    have V1 := V1.kept hk6 hn1
    have R6 := R5.kept hk6 hn0
    have B3 := hb01.trans (hb12.mono (by omega)) |>.trans (hb23.mono (by omega))
    have B4 := B3.trans ((hk4.toBelow (B := w.heap.size) (by omega) (fun g hg => by have := hS g hg; omega)))
    have B6 := (B4.trans (hb5.mono (by omega))).trans ((hk6.toBelow (B := w.heap.size) (by omega) (fun g hg => by have := hS g hg; omega)))
    have hfin := HP.out 0 0 0 0 (.slice none 0 0) bv6 (((((w6.setCell ⟨w.heap.size, 0, none⟩ (.int .i64 0)).setCell ⟨w.heap.size, 1, none⟩ (.int .i64 0)).setCell ⟨w.heap.size, 2, none⟩ (.int .i64 0)).setCell ⟨w.heap.size, 3, none⟩ (.int .i64 0)).setCell ⟨w.heap.size, 4, none⟩ (.slice none 0 0))
      ((((((o61.set (by simp) _).set (by simp) _).set (by simp) _).set (by simp) _).set (by simp) _).base (by omega)) l61 (((((B6.setCell (by simp) _).setCell (by simp) _).setCell (by simp) _).setCell (by simp) _).setCell (by simp) _)
    clear hk6 hk4 o41 o42 o51 o61 o31 o32 own1 own2 own1' B3 B4 B6 HP hSv hSx x0 x1 x2 x3 x4
    have x0 := V1.cell (i := 0) rfl
    have x1 := V1.cell (i := 1) rfl
    have x2 := V1.cell (i := 2) rfl
    have x3 := V1.cell (i := 3) rfl
    have x4 := V1.cell (i := 4) rfl
    have r0 := R6.cell (i := 0) rfl
    have r1 := R6.cell (i := 1) rfl
    have r2 := R6.cell (i := 2) rfl
    have r3 := R6.cell (i := 3) rfl
    have r4 := R6.cell (i := 4) rfl
    have f0 := R6.frozen 0
    have f1 := R6.frozen 1
    have f2 := R6.frozen 2
    have f3 := R6.frozen 3
    have f4 := R6.frozen 4
    go_wp2
    exact bodyPost_ret (v := .tuple #[.agg #[.int .i64 0, .int .i64 0, .int .i64 0, .int .i64 0, .slice none 0 0], .bool true]) (by simp [results, Tryz.results39, go_sem, r0, r1, r2, r3, r4]) rfl hfin

end Go.Proofs.YtblhmeidbjigaabGreatDoor

/- The reference does an operation. -/
set_option linter.unusedSimpArgs false
set_option linter.unusedVariables false
namespace Go.Proofs.YtblhmeidbjigaabGreatDoor
open Go.RowKit

set_option maxRecDepth 100000 in
set_option maxHeartbeats 1000000 in
theorem does_1 (K : Nat → Prop) (t r : Int) (M : Nat) (s : RunD) (a b c : Int) (regs data slots : Int) (w : World) (h : RefS K t r w M s) (hl : s.leak.length ≤ 99999) (hz : Sized s regs data slots) (hg : opGood regs slots ⟨1, a, b, c⟩ = true) (Post : Ending → World → Prop)
    (hp : ∀ w', RefS K t r w' M (stepOp s ⟨1, a, b, c⟩) → Keep (fun g => ¬ K g) w w' → Post (.returned (.tuple #[])) w') :
    Calls Tryz.prog 145 #[.pointer (some ⟨M, 0, none⟩), .agg #[.int .i64 1, .int .i64 a, .int .i64 b, .int .i64 c]] w Post := by
  obtain ⟨zr, zc, zs⟩ := hz
  simp only [opGood, below, if_true, Bool.and_eq_true, decide_eq_true_eq] at hg
  obtain ⟨⟨ga, gb⟩, gc⟩ := hg
  obtain ⟨a, rfl⟩ := Int.eq_ofNat_of_zero_le ga.1
  have ha : a < s.regs.length := by omega
  simp only [stepOp, if_true] at hp
  have W0 := RWith.start h 36 [.int .i64 1, .int .i64 a, .int .i64 b, .int .i64 c]
  have o0 := W0.row.cell (i := 0) rfl
  clear h
  have o2 := W0.row.cell (i := 2) rfl
  have o3 := W0.row.cell (i := 3) rfl
  have Wd := W0.below ((Below.refl _ _).drew)
  obtain ⟨rv, cv, sv, lv, hrow, hbu, hK⟩ := id Wd.mach
  obtain ⟨g2, rc2, hrv, hgr, hrc2, hrf2⟩ := hbu.regs.at (i := a) ha
  subst hrv
  have m1 := hrow.cell (i := 1) rfl
  have o1 := Wd.row.cell (i := 1) rfl
  have f2 := hrf2 a
  have hai : (0 : Int) ≤ (a : Int) := by omega
  have haj : (a : Int) < (s.regs.length : Int) := by omega
  obtain ⟨q1, q2⟩ := Wd.setReg hrow hbu hgr (i := a) ha (256 * b + c - 32768)
  have HF : Hid (Post (.returned (.tuple #[])) ((w.alloc (.cells #[.int .i64 1, .int .i64 a, .int .i64 b, .int .i64 c] 36)).drew.setCell ⟨g2, a, none⟩ (.int .i64 (256 * b + c - 32768)))) := hp _ (q1) q2
  clear hp q1 q2 Wd hrow hbu W0
  go_enter Tryz.func145, Tryz.ntmps145
  go_wp2
  refine wp_tail 8 (by kernel_rfl) (by kernel_rfl) ?_
  simp only [List.take_succ_cons, List.take_zero, List.drop_succ_cons, List.drop_zero]
  repeat still_step
  refine wpStill_nil ?_
  go_wp2
  go_end0
  exact HF.out

set_option maxRecDepth 100000 in
set_option maxHeartbeats 1000000 in
theorem does_14 (K : Nat → Prop) (t r : Int) (M : Nat) (s : RunD) (a b c : Int) (regs data slots : Int) (w : World) (h : RefS K t r w M s) (hl : s.leak.length ≤ 99999) (hz : Sized s regs data slots) (hg : opGood regs slots ⟨14, a, b, c⟩ = true) (Post : Ending → World → Prop)
    (hp : ∀ w', RefS K t r w' M (stepOp s ⟨14, a, b, c⟩) → Keep (fun g => ¬ K g) w w' → Post (.returned (.tuple #[])) w') :
    Calls Tryz.prog 145 #[.pointer (some ⟨M, 0, none⟩), .agg #[.int .i64 14, .int .i64 a, .int .i64 b, .int .i64 c]] w Post := by
  obtain ⟨zr, zc, zs⟩ := hz
  simp [opGood, below] at hg
  obtain ⟨⟨ga, gb⟩, gc⟩ := hg
  subst gc
  obtain ⟨a, rfl⟩ := Int.eq_ofNat_of_zero_le ga.1
  obtain ⟨b, rfl⟩ := Int.eq_ofNat_of_zero_le gb.1
  have W0 := RWith.start h 36 [.int .i64 14, .int .i64 a, .int .i64 b, .int .i64 0]
  have o0 := W0.row.cell (i := 0) rfl
  clear h
  simp [stepOp] at hp
  have ha : a < s.slots.length := by omega
  have hb : b < s.regs.length := by omega
  have Wd := W0.below ((Below.refl _ _).drew)
  obtain ⟨rv, cv, sv, lv, hrow, hbu, hK⟩ := id Wd.mach
  obtain ⟨g2, rc, hrv, hgr, hrc, hrf⟩ := hbu.slots.at (i := a) ha
  obtain ⟨g1, rc1, hrv1, hgr1, hrc1, hrf1⟩ := hbu.regs.at (i := b) hb
  have e1 : s.regs.getD b 0 = rg s.regs b := by simp [rg]
  rw [e1] at hrc1
  subst hrv
  subst hrv1
  have m3 := hrow.cell (i := 3) rfl
  have m1 := hrow.cell (i := 1) rfl
  have o1 := Wd.row.cell (i := 1) rfl
  have o2 := Wd.row.cell (i := 2) rfl
  have f2 := hrf a
  have hai : (0 : Int) ≤ (a : Int) := by omega
  have haj : (a : Int) < (s.slots.length : Int) := by omega
  have hbi : (0 : Int) ≤ (b : Int) := by omega
  have hbj : (b : Int) < (s.regs.length : Int) := by omega
  obtain ⟨q1, q2⟩ := Wd.setSlot hrow hbu hgr (i := a) ha (rg s.regs b)
  have HF : Hid (Post (.returned (.tuple #[])) ((w.alloc (.cells #[.int .i64 14, .int .i64 a, .int .i64 b, .int .i64 0] 36)).drew.setCell ⟨g2, a, none⟩ (.int .i64 (rg s.regs b)))) := hp _ q1 q2
  clear hp q1 q2 W0 Wd hrow hbu
  go_enter Tryz.func145, Tryz.ntmps145
  go_wp2
  refine wp_tail 15 (by kernel_rfl) (by kernel_rfl) ?_
  simp only [List.take_succ_cons, List.take_zero, List.drop_succ_cons, List.drop_zero]
  repeat still_step
  refine wpStill_nil ?_
  go_wp2
  (try simp only [Exit.inBlock, Exit.then])
  refine bodyPost_ret (v := .tuple #[]) ?_ rfl ?_
  · simp [results, Tryz.results145, go_sem]
  · exact HF.out

set_option maxRecDepth 100000 in
set_option maxHeartbeats 1000000 in
theorem does_2 (K : Nat → Prop) (t r : Int) (M : Nat) (s : RunD) (a b c : Int) (regs data slots : Int) (w : World) (h : RefS K t r w M s) (hl : s.leak.length ≤ 99999) (hz : Sized s regs data slots) (hg : opGood regs slots ⟨2, a, b, c⟩ = true) (Post : Ending → World → Prop)
    (hp : ∀ w', RefS K t r w' M (stepOp s ⟨2, a, b, c⟩) → Keep (fun g => ¬ K g) w w' → Post (.returned (.tuple #[])) w') :
    Calls Tryz.prog 145 #[.pointer (some ⟨M, 0, none⟩), .agg #[.int .i64 2, .int .i64 a, .int .i64 b, .int .i64 c]] w Post := by
  obtain ⟨zr, zc, zs⟩ := hz
  simp [opGood, below] at hg
  obtain ⟨⟨ga, gb⟩, gc⟩ := hg
  subst gc
  obtain ⟨a, rfl⟩ := Int.eq_ofNat_of_zero_le ga.1
  obtain ⟨b, rfl⟩ := Int.eq_ofNat_of_zero_le gb.1
  have ha : a < s.regs.length := by omega
  have hb : b < s.regs.length := by omega
  simp [stepOp] at hp
  have W0 := RWith.start h 36 [.int .i64 2, .int .i64 a, .int .i64 b, .int .i64 0]
  have o0 := W0.row.cell (i := 0) rfl
  clear h
  obtain ⟨rv, cv, sv, lv, hrow, hbu, hK⟩ := id W0.mach
  obtain ⟨rb, rc, hrv, hrb, hrc, hrf⟩ := hbu.regs.at (i := b) hb
  subst hrv
  have m0 := hrow.cell (i := 1) rfl
  have oo := W0.row.cell (i := 2) rfl
  have hbi : (0 : Int) ≤ (b : Int) := by omega
  have hbj : (b : Int) < (s.regs.length : Int) := by omega
  have hn : s.regs.getD b 0 = rg s.regs b := by simp [rg]
  rw [hn] at hrc
  generalize rg s.regs b = x at *
  have WWd : ∀ d, RWith K t r w ((w.alloc (.cells #[.int .i64 2, .int .i64 a, .int .i64 b, .int .i64 0] 36)).drewN d) M w.heap.size 36 [.int .i64 2, .int .i64 a, .int .i64 b, .int .i64 0] s := fun d => W0.below (below_drewN (Below.refl _ _) d)
  go_enter Tryz.func145, Tryz.ntmps145
  go_wp2
  go_quiet (fail)
  generalize hwq : (w.alloc (.cells #[.int .i64 2, .int .i64 a, .int .i64 b, .int .i64 0] 36)).drewN _ = wq
  have Wq : RWith K t r w wq M w.heap.size 36 [.int .i64 2, .int .i64 a, .int .i64 b, .int .i64 0] s := by rw [← hwq]; exact WWd _
  clear WWd hwq m0 oo hrc hrf hrb hK hbi hbj hn W0 hrow hbu
  have Wd := Wq.below ((Below.refl _ _).drew)
  obtain ⟨rv, cv, sv, lv, hrow, hbu, hK⟩ := id Wd.mach
  obtain ⟨g2, rc2, hrv, hgr, hrc2, hrf2⟩ := hbu.regs.at (i := a) ha
  subst hrv
  have m1 := hrow.cell (i := 1) rfl
  have o1 := Wd.row.cell (i := 1) rfl
  have f2 := hrf2 a
  have hai : (0 : Int) ≤ (a : Int) := by omega
  have haj : (a : Int) < (s.regs.length : Int) := by omega
  obtain ⟨q1, q2⟩ := Wd.setReg hrow hbu hgr (i := a) ha (x)
  have HF : Hid (Post (.returned (.tuple #[])) (wq.drew.setCell ⟨g2, a, none⟩ (.int .i64 (x)))) := hp _ (q1) q2
  clear hp q1 q2 Wd hrow hbu Wq
  go_wp2
  refine wp_tail 8 (by kernel_rfl) (by kernel_rfl) ?_
  simp only [List.take_succ_cons, List.take_zero, List.drop_succ_cons, List.drop_zero]
  repeat still_step
  refine wpStill_nil ?_
  go_wp2
  go_end0
  exact HF.out

set_option maxRecDepth 100000 in
set_option maxHeartbeats 1000000 in
theorem does_15 (K : Nat → Prop) (t r : Int) (M : Nat) (s : RunD) (a b c : Int) (regs data slots : Int) (w : World) (h : RefS K t r w M s) (hl : s.leak.length ≤ 99999) (hz : Sized s regs data slots) (hg : opGood regs slots ⟨15, a, b, c⟩ = true) (Post : Ending → World → Prop)
    (hp : ∀ w', RefS K t r w' M (stepOp s ⟨15, a, b, c⟩) → Keep (fun g => ¬ K g) w w' → Post (.returned (.tuple #[])) w') :
    Calls Tryz.prog 145 #[.pointer (some ⟨M, 0, none⟩), .agg #[.int .i64 15, .int .i64 a, .int .i64 b, .int .i64 c]] w Post := by
  obtain ⟨zr, zc, zs⟩ := hz
  simp [opGood, below] at hg
  obtain ⟨⟨ga, gb⟩, gc⟩ := hg
  subst gc
  obtain ⟨a, rfl⟩ := Int.eq_ofNat_of_zero_le ga.1
  obtain ⟨b, rfl⟩ := Int.eq_ofNat_of_zero_le gb.1
  have ha : a < s.regs.length := by omega
  have hb : b < s.slots.length := by omega
  simp [stepOp] at hp
  have W0 := RWith.start h 36 [.int .i64 15, .int .i64 a, .int .i64 b, .int .i64 0]
  have o0 := W0.row.cell (i := 0) rfl
  clear h
  obtain ⟨rv, cv, sv, lv, hrow, hbu, hK⟩ := id W0.mach
  obtain ⟨rb, rc, hrv, hrb, hrc, hrf⟩ := hbu.slots.at (i := b) hb
  subst hrv
  have m0 := hrow.cell (i := 3) rfl
  have oo := W0.row.cell (i := 2) rfl
  have hbi : (0 : Int) ≤ (b : Int) := by omega
  have hbj : (b : Int) < (s.slots.length : Int) := by omega
  have hn : s.slots.getD b 0 = rg s.slots b := by simp [rg]
  rw [hn] at hrc
  generalize rg s.slots b = x at *
  have WWd : ∀ d, RWith K t r w ((w.alloc (.cells #[.int .i64 15, .int .i64 a, .int .i64 b, .int .i64 0] 36)).drewN d) M w.heap.size 36 [.int .i64 15, .int .i64 a, .int .i64 b, .int .i64 0] s := fun d => W0.below (below_drewN (Below.refl _ _) d)
  go_enter Tryz.func145, Tryz.ntmps145
  go_wp2
  go_quiet (fail)
  generalize hwq : (w.alloc (.cells #[.int .i64 15, .int .i64 a, .int .i64 b, .int .i64 0] 36)).drewN _ = wq
  have Wq : RWith K t r w wq M w.heap.size 36 [.int .i64 15, .int .i64 a, .int .i64 b, .int .i64 0] s := by rw [← hwq]; exact WWd _
  clear WWd hwq m0 oo hrc hrf hrb hK hbi hbj hn W0 hrow hbu
  have Wd := Wq.below ((Below.refl _ _).drew)
  obtain ⟨rv, cv, sv, lv, hrow, hbu, hK⟩ := id Wd.mach
  obtain ⟨g2, rc2, hrv, hgr, hrc2, hrf2⟩ := hbu.regs.at (i := a) ha
  subst hrv
  have m1 := hrow.cell (i := 1) rfl
  have o1 := Wd.row.cell (i := 1) rfl
  have f2 := hrf2 a
  have hai : (0 : Int) ≤ (a : Int) := by omega
  have haj : (a : Int) < (s.regs.length : Int) := by omega
  obtain ⟨q1, q2⟩ := Wd.setReg hrow hbu hgr (i := a) ha (x)
  have HF : Hid (Post (.returned (.tuple #[])) (wq.drew.setCell ⟨g2, a, none⟩ (.int .i64 (x)))) := hp _ (q1) q2
  clear hp q1 q2 Wd hrow hbu Wq
  go_wp2
  refine wp_tail 8 (by kernel_rfl) (by kernel_rfl) ?_
  simp only [List.take_succ_cons, List.take_zero, List.drop_succ_cons, List.drop_zero]
  repeat still_step
  refine wpStill_nil ?_
  go_wp2
  go_end0
  exact HF.out

set_option maxRecDepth 100000 in
set_option maxHeartbeats 1000000 in
theorem does_13 (K : Nat → Prop) (t r : Int) (M : Nat) (s : RunD) (a b c : Int) (regs data slots : Int) (w : World) (h : RefS K t r w M s) (hl : s.leak.length ≤ 99999) (hz : Sized s regs data slots) (hg : opGood regs slots ⟨13, a, b, c⟩ = true) (Post : Ending → World → Prop)
    (hp : ∀ w', RefS K t r w' M (stepOp s ⟨13, a, b, c⟩) → Keep (fun g => ¬ K g) w w' → Post (.returned (.tuple #[])) w') :
    Calls Tryz.prog 145 #[.pointer (some ⟨M, 0, none⟩), .agg #[.int .i64 13, .int .i64 a, .int .i64 b, .int .i64 c]] w Post := by
  obtain ⟨zr, zc, zs⟩ := hz
  simp [opGood, below] at hg
  obtain ⟨⟨ga, gb⟩, gc⟩ := hg
  subst gc
  obtain ⟨a, rfl⟩ := Int.eq_ofNat_of_zero_le ga.1
  obtain ⟨b, rfl⟩ := Int.eq_ofNat_of_zero_le gb.1
  have ha : a < s.regs.length := by omega
  have hb : b < s.regs.length := by omega
  simp [stepOp] at hp
  have W0 := RWith.start h 36 [.int .i64 13, .int .i64 a, .int .i64 b, .int .i64 0]
  have o0 := W0.row.cell (i := 0) rfl
  clear h
  obtain ⟨rv, cv, sv, lv, hrow, hbu, hK⟩ := id W0.mach
  obtain ⟨rb, rc, hrv, hrb, hrc, hrf⟩ := hbu.regs.at (i := a) ha
  subst hrv
  have m0 := hrow.cell (i := 1) rfl
  have oo := W0.row.cell (i := 1) rfl
  have hbi : (0 : Int) ≤ (a : Int) := by omega
  have hbj : (a : Int) < (s.regs.length : Int) := by omega
  have hn : s.regs.getD a 0 = rg s.regs a := by simp [rg]
  rw [hn] at hrc
  generalize rg s.regs a = n at *
  have WWd : ∀ d, RWith K t r w ((w.alloc (.cells #[.int .i64 13, .int .i64 a, .int .i64 b, .int .i64 0] 36)).drewN d) M w.heap.size 36 [.int .i64 13, .int .i64 a, .int .i64 b, .int .i64 0] s := fun d => W0.below (below_drewN (Below.refl _ _) d)
  go_enter Tryz.func145, Tryz.ntmps145
  go_wp2
  go_quiet (fail)
  generalize hwq : (w.alloc (.cells #[.int .i64 13, .int .i64 a, .int .i64 b, .int .i64 0] 36)).drewN _ = wq
  have Wq : RWith K t r w wq M w.heap.size 36 [.int .i64 13, .int .i64 a, .int .i64 b, .int .i64 0] s := by rw [← hwq]; exact WWd _
  clear WWd hwq m0 oo hrc hrf hrb hK hbi hbj hn W0 hrow hbu
  go_wp2_with fail
  refine rCell_cps _ t r M s n wq Wq.mach (by omega) _ ?_ ?_
  · intro hin w2 hm2 hk2
    rw [if_pos hin] at hp
    obtain ⟨hn0, hn1⟩ := hin
    obtain ⟨j, rfl⟩ := Int.eq_ofNat_of_zero_le hn0
    have W2 := Wq.next hm2 hk2
    clear Wq hm2 hk2
    have Wd := W2.below ((Below.refl w2.heap.size w2).drew)
    obtain ⟨rv, cv, sv, lv, hrow, hbu, hK⟩ := id Wd.mach
    obtain ⟨g1, cc, hcv, hgc, hcc, hcf⟩ := hbu.cells.at (i := j) (by show j < s.cells.length; omega)
    obtain ⟨g2, rc, hrv, hgr, hrc, hrf⟩ := hbu.regs.at (i := b) hb
    subst hcv hrv
    have e1 : (s.out j).regs.getD b 0 = rg s.regs b := by simp [rg, RunD.out]
    rw [e1] at hrc
    have m1 := hrow.cell (i := 1) rfl
    have m2 := hrow.cell (i := 2) rfl
    have o2 := Wd.row.cell (i := 2) rfl
    have f2 := hcf j
    have hai : (0 : Int) ≤ (b : Int) := by omega
    have haj : (b : Int) < ((s.out j).regs.length : Int) := by show (b : Int) < (s.regs.length : Int); omega
    have hji : (0 : Int) ≤ (j : Int) := by omega
    have hjj : (j : Int) < ((s.out j).cells.length : Int) := hn1
    obtain ⟨q1, q2⟩ := Wd.setMem hrow hbu hgc (i := j) (by show j < s.cells.length; omega) (rg s.regs b)
    have HF : Hid (Post (.returned (.tuple #[])) (w2.drew.setCell ⟨g1, j, none⟩ (.int .i64 (rg s.regs b)))) := hp _ q1 q2
    clear hp q1 q2 W2 Wd hrow hbu
    go_wp2
    refine wp_tail 14 (by kernel_rfl) (by kernel_rfl) ?_
    simp only [List.take_succ_cons, List.take_zero, List.drop_succ_cons, List.drop_zero]
    repeat still_step
    refine wpStill_nil ?_
    go_wp2
    (try simp only [Exit.inBlock, Exit.then])
    refine bodyPost_ret (v := .tuple #[]) ?_ rfl ?_
    · simp [results, Tryz.results145, go_sem]
    · exact HF.out
  · intro hin w2 hm2 hk2
    rw [if_neg hin] at hp
    have W2 := Wq.next hm2 hk2
    have HF : Hid (Post (.returned (.tuple #[])) w2) := hp _ W2.done W2.keep
    clear hp W2 Wq hm2 hk2
    go_wp2
    (try simp only [Exit.inBlock, Exit.then])
    refine bodyPost_ret (v := .tuple #[]) ?_ rfl ?_
    · simp [results, Tryz.results145, go_sem]
    · exact HF.out

set_option maxRecDepth 100000 in
set_option maxHeartbeats 1000000 in
theorem does_12 (K : Nat → Prop) (t r : Int) (M : Nat) (s : RunD) (a b c : Int) (regs data slots : Int) (w : World) (h : RefS K t r w M s) (hl : s.leak.length ≤ 99999) (hz : Sized s regs data slots) (hg : opGood regs slots ⟨12, a, b, c⟩ = true) (Post : Ending → World → Prop)
    (hp : ∀ w', RefS K t r w' M (stepOp s ⟨12, a, b, c⟩) → Keep (fun g => ¬ K g) w w' → Post (.returned (.tuple #[])) w') :
    Calls Tryz.prog 145 #[.pointer (some ⟨M, 0, none⟩), .agg #[.int .i64 12, .int .i64 a, .int .i64 b, .int .i64 c]] w Post := by
  obtain ⟨zr, zc, zs⟩ := hz
  simp [opGood, below] at hg
  obtain ⟨⟨ga, gb⟩, gc⟩ := hg
  subst gc
  obtain ⟨a, rfl⟩ := Int.eq_ofNat_of_zero_le ga.1
  obtain ⟨b, rfl⟩ := Int.eq_ofNat_of_zero_le gb.1
  have ha : a < s.regs.length := by omega
  have hb : b < s.regs.length := by omega
  simp [stepOp] at hp
  have W0 := RWith.start h 36 [.int .i64 12, .int .i64 a, .int .i64 b, .int .i64 0]
  have o0 := W0.row.cell (i := 0) rfl
  clear h
  obtain ⟨rv, cv, sv, lv, hrow, hbu, hK⟩ := id W0.mach
  obtain ⟨rb, rc, hrv, hrb, hrc, hrf⟩ := hbu.regs.at (i := b) hb
  subst hrv
  have m0 := hrow.cell (i := 1) rfl
  have oo := W0.row.cell (i := 2) rfl
  have hbi : (0 : Int) ≤ (b : Int) := by omega
  have hbj : (b : Int) < (s.regs.length : Int) := by omega
  have hn : s.regs.getD b 0 = rg s.regs b := by simp [rg]
  rw [hn] at hrc
  generalize rg s.regs b = n at *
  have WWd : ∀ d, RWith K t r w ((w.alloc (.cells #[.int .i64 12, .int .i64 a, .int .i64 b, .int .i64 0] 36)).drewN d) M w.heap.size 36 [.int .i64 12, .int .i64 a, .int .i64 b, .int .i64 0] s := fun d => W0.below (below_drewN (Below.refl _ _) d)
  go_enter Tryz.func145, Tryz.ntmps145
  go_wp2
  go_quiet (fail)
  generalize hwq : (w.alloc (.cells #[.int .i64 12, .int .i64 a, .int .i64 b, .int .i64 0] 36)).drewN _ = wq
  have Wq : RWith K t r w wq M w.heap.size 36 [.int .i64 12, .int .i64 a, .int .i64 b, .int .i64 0] s := by rw [← hwq]; exact WWd _
  clear WWd hwq m0 oo hrc hrf hrb hK hbi hbj hn W0 hrow hbu
  go_wp2_with fail
  refine rCell_cps _ t r M s n wq Wq.mach (by omega) _ ?_ ?_
  · intro hin w2 hm2 hk2
    rw [if_pos hin] at hp
    obtain ⟨hn0, hn1⟩ := hin
    obtain ⟨j, rfl⟩ := Int.eq_ofNat_of_zero_le hn0
    have W2 := Wq.next hm2 hk2
    clear Wq hm2 hk2
    obtain ⟨rv, cv, sv, lv, hrow, hbu, hK⟩ := id W2.mach
    obtain ⟨g1, cc, hcv, hgc, hcc, hcf⟩ := hbu.cells.at (i := j) (by show j < s.cells.length; omega)
    subst hcv
    have e1 : (s.out j).cells.getD j 0 = rg s.cells j := by simp [rg, RunD.out]
    rw [e1] at hcc
    have m2 := hrow.cell (i := 2) rfl
    have hji : (0 : Int) ≤ (j : Int) := by omega
    have hjj : (j : Int) < ((s.out j).cells.length : Int) := hn1
    clear hrow hbu
    have Wd := W2.below ((Below.refl _ _).drew)
    obtain ⟨rv, cv, sv, lv, hrow, hbu, hK⟩ := id Wd.mach
    obtain ⟨g2, rc2, hrv, hgr, hrc2, hrf2⟩ := hbu.regs.at (i := a) ha
    subst hrv
    have m1 := hrow.cell (i := 1) rfl
    have o1 := Wd.row.cell (i := 1) rfl
    have f2 := hrf2 a
    have hai : (0 : Int) ≤ (a : Int) := by omega
    have haj : (a : Int) < (s.regs.length : Int) := by omega
    obtain ⟨q1, q2⟩ := Wd.setReg hrow hbu hgr (i := a) ha (rg s.cells j)
    have HF : Hid (Post (.returned (.tuple #[])) (w2.drew.setCell ⟨g2, a, none⟩ (.int .i64 (rg s.cells j)))) := hp _ (q1) q2
    clear hp q1 q2 Wd hrow hbu W2
    have haj' : (a : Int) < ((s.out j).regs.length : Int) := haj
    generalize rg s.cells j = x at *
    go_wp2
    refine wp_tail 8 (by kernel_rfl) (by kernel_rfl) ?_
    simp only [List.take_succ_cons, List.take_zero, List.drop_succ_cons, List.drop_zero]
    repeat still_step
    refine wpStill_nil ?_
    go_wp2
    go_end0
    exact HF.out
  · intro hin w2 hm2 hk2
    rw [if_neg hin] at hp
    have W2 := Wq.next hm2 hk2
    have HF : Hid (Post (.returned (.tuple #[])) w2) := hp _ W2.done W2.keep
    clear hp W2 Wq hm2 hk2
    go_wp2
    (try simp only [Exit.inBlock, Exit.then])
    refine bodyPost_ret (v := .tuple #[]) ?_ rfl ?_
    · simp [results, Tryz.results145, go_sem]
    · exact HF.out

end Go.Proofs.YtblhmeidbjigaabGreatDoor

/- The reference does an operation: from Add to Div; every one. -/
set_option linter.unusedSimpArgs false
set_option linter.unusedVariables false
namespace Go.Proofs.YtblhmeidbjigaabGreatDoor
open Go.RowKit

set_option maxRecDepth 100000 in
set_option maxHeartbeats 2000000 in
theorem does_calc (K : Nat → Prop) (t r : Int) (M : Nat) (s : RunD) (k : Int) (a b c : Nat) (w : World) (h : RefS K t r w M s) (hl : s.leak.length ≤ 99998) (hk : 3 ≤ k ∧ k ≤ 11) (ha : a < s.regs.length) (hb : b < s.regs.length) (hc : c < s.regs.length) (Post : Ending → World → Prop)
    (hp : ∀ w', RefS K t r w' M (if k = 11 then (if rg s.regs c = 0 then ((s.out (rg s.regs b)).out (rg s.regs c)).die 3 else ((s.out (rg s.regs b)).out (rg s.regs c)).reg a (calcW 11 (rg s.regs b) (rg s.regs c))) else s.reg a (calcW k (rg s.regs b) (rg s.regs c))) → Keep (fun g => ¬ K g) w w' → Post (.returned (.tuple #[])) w') :
    Calls Tryz.prog 145 #[.pointer (some ⟨M, 0, none⟩), .agg #[.int .i64 k, .int .i64 a, .int .i64 b, .int .i64 c]] w Post := by
  obtain ⟨i0, ii, iz0, iz1, iz2⟩ := info_parts Tryz.infoInt
  have W0 := RWith.start h 36 [.int .i64 k, .int .i64 a, .int .i64 b, .int .i64 c]
  have o0 := W0.row.cell (i := 0) rfl
  have e1 : (k == 1) = false := by simp; omega
  have e2 : (k == 2) = false := by simp; omega
  have e12 : (k == 12) = false := by simp; omega
  have e13 : (k == 13) = false := by simp; omega
  have e14 : (k == 14) = false := by simp; omega
  have e15 : (k == 15) = false := by simp; omega
  clear h
  obtain ⟨rv, cv, sv, lv, hrow, hbu, hK⟩ := id W0.mach
  obtain ⟨rb, rc, hrv, hrb, hrc, hrf⟩ := hbu.regs.at (i := b) hb
  subst hrv
  have m0 := hrow.cell (i := 1) rfl
  have oo := W0.row.cell (i := 2) rfl
  have hbi : (0 : Int) ≤ (b : Int) := by omega
  have hbj : (b : Int) < (s.regs.length : Int) := by omega
  have hn : s.regs.getD b 0 = rg s.regs b := by simp [rg]
  rw [hn] at hrc
  generalize rg s.regs b = x at *
  have WWd : ∀ d, RWith K t r w ((w.alloc (.cells #[.int .i64 k, .int .i64 a, .int .i64 b, .int .i64 c] 36)).drewN d) M w.heap.size 36 [.int .i64 k, .int .i64 a, .int .i64 b, .int .i64 c] s := fun d => W0.below (below_drewN (Below.refl _ _) d)
  go_enter Tryz.func145, Tryz.ntmps145
  go_wp2
  go_quiet (fail)
  generalize hwq : (w.alloc (.cells #[.int .i64 k, .int .i64 a, .int .i64 b, .int .i64 c] 36)).drewN _ = wq
  have Wq : RWith K t r w wq M w.heap.size 36 [.int .i64 k, .int .i64 a, .int .i64 b, .int .i64 c] s := by rw [← hwq]; exact WWd _
  clear WWd hwq m0 oo hrc hrf hrb hK hbi hbj hn W0 hrow hbu
  clear o0
  obtain ⟨rv, cv, sv, lv, hrow, hbu, hK⟩ := id Wq.mach
  obtain ⟨rb, rc, hrv, hrb, hrc, hrf⟩ := hbu.regs.at (i := c) hc
  subst hrv
  have m0 := hrow.cell (i := 1) rfl
  have oo := Wq.row.cell (i := 3) rfl
  have hbi : (0 : Int) ≤ (c : Int) := by omega
  have hbj : (c : Int) < (s.regs.length : Int) := by omega
  have hn : s.regs.getD c 0 = rg s.regs c := by simp [rg]
  rw [hn] at hrc
  generalize rg s.regs c = y at *
  have WWd : ∀ d, RWith K t r w (wq.drewN d) M w.heap.size 36 [.int .i64 k, .int .i64 a, .int .i64 b, .int .i64 c] s := fun d => Wq.below (below_drewN (Below.refl _ _) d)
  go_wp2
  go_quiet (fail)
  generalize hwq : wq.drewN _ = wp
  have Wp : RWith K t r w wp M w.heap.size 36 [.int .i64 k, .int .i64 a, .int .i64 b, .int .i64 c] s := by rw [← hwq]; exact WWd _
  clear WWd hwq m0 oo hrc hrf hrb hK hbi hbj hn Wq hrow hbu
  have o0 := Wp.row.cell (i := 0) rfl
  by_cases h11 : k = 11
  · subst h11
    obtain ⟨rv, cv, sv, lv, hrow, hbu, hK⟩ := id Wp.mach
    obtain ⟨lo1, lc1, rfl⟩ := owns_slice hbu.leak
    have m4 := hrow.cell (i := 4) rfl
    have hbl := (hbu.keep ((Below.refl wp.heap.size wp).alloc (Nat.le_refl _) (.cells #[.int .i64 x] 3))).leak
    have hll : (s).leak.length ≤ 100000 := by omega
    go_wp2_with (at_builtin; refine wpList_append_own_at _ rfl _ _ 22 rfl 0 3 i0 (.int .i64 0) 1 8 Tryz.underlying22 ii iz0 iz1 iz2 rfl (by decide) _ _ _ rfl hbl ⟨wp.heap.size, 0, none⟩ 1 1 [.int .i64 x] rfl rfl (by simpa using one_new wp (.int .i64 x) 3) (int_one' _) ?_ ?_ (by omega) ?_)
    · unfold maxLen; omega
    · omega
    intro v1 u1 hown hgrow _ hat
    obtain ⟨⟨hm1, hk1⟩, y41, yf1⟩ := refs_app hrow hbu hK hown hgrow (by simpa using hat)
    obtain ⟨lo1', lc1', rfl⟩ := owns_slice hown
    have W3 := Wp.next hm1 hk1
    clear hrow hbu hown hgrow hat hbl m4 hm1 hk1 hll Wp
    clear o0
    obtain ⟨rv, cv, sv, lv, hrow, hbu, hK⟩ := id W3.mach
    obtain ⟨lo2, lc2, rfl⟩ := owns_slice hbu.leak
    have m4 := hrow.cell (i := 4) rfl
    have hbl := (hbu.keep ((Below.refl (u1.setCell ⟨M, 4, none⟩ (.slice lo1' (s.leak.length + 1) lc1')).heap.size (u1.setCell ⟨M, 4, none⟩ (.slice lo1' (s.leak.length + 1) lc1'))).alloc (Nat.le_refl _) (.cells #[.int .i64 y] 3))).leak
    have hll : (s.out x).leak.length ≤ 100000 := by simp [RunD.out]; omega
    go_wp2_with (at_builtin; refine wpList_append_own_at _ rfl _ _ 22 rfl 0 3 i0 (.int .i64 0) 1 8 Tryz.underlying22 ii iz0 iz1 iz2 rfl (by decide) _ _ _ rfl hbl ⟨u1.heap.size, 0, none⟩ 1 1 [.int .i64 y] rfl rfl (by simpa using one_new (u1.setCell ⟨M, 4, none⟩ (.slice lo1' (s.leak.length + 1) lc1')) (.int .i64 y) 3) (int_one' _) ?_ ?_ (by omega) ?_)
    · unfold maxLen; omega
    · omega
    intro v2 u2 hown hgrow _ hat
    obtain ⟨⟨hm2, hk2⟩, y42, yf2⟩ := refs_app hrow hbu hK hown hgrow (by simpa using hat)
    obtain ⟨lo2', lc2', rfl⟩ := owns_slice hown
    have W4 := W3.next hm2 hk2
    clear hrow hbu hown hgrow hat hbl m4 hm2 hk2 hll W3
    have o0 := W4.row.cell (i := 0) rfl
    by_cases hy : y = 0
    · subst hy
      obtain ⟨rv, cv, sv, lv, hrow, hbu, hK⟩ := id W4.mach
      have m5 := hrow.cell (i := 5) rfl
      have f5 := hrow.frozen 5
      obtain ⟨q1, q2⟩ := W4.trap hrow hbu 3
      have HF : Hid (Post (.returned (.tuple #[])) ((u2.setCell ⟨M, 4, none⟩ (.slice lo2' ((s.out x).leak.length + 1) lc2')).setCell ⟨M, 5, none⟩ (.int .i64 3))) := hp _ (by simpa using q1) q2
      clear hp q1 q2 W4 hrow hbu
      go_wp2
      (try simp only [Exit.inBlock, Exit.then])
      refine bodyPost_ret (v := .tuple #[]) ?_ rfl ?_
      · simp [results, Tryz.results145, go_sem]
      · exact HF.out
    · have hy' : (y == 0) = false := by simp [hy]
      have Wd := W4.below ((Below.refl _ _).drew)
      obtain ⟨rv, cv, sv, lv, hrow, hbu, hK⟩ := id Wd.mach
      obtain ⟨g2, rc2, hrv, hgr, hrc2, hrf2⟩ := hbu.regs.at (i := a) ha
      subst hrv
      have m1 := hrow.cell (i := 1) rfl
      have o1 := Wd.row.cell (i := 1) rfl
      have f2 := hrf2 a
      have hai : (0 : Int) ≤ (a : Int) := by omega
      have haj : (a : Int) < (((s.out x).out y).regs.length : Int) := by show (a : Int) < (s.regs.length : Int); omega
      obtain ⟨q1, q2⟩ := Wd.setReg hrow hbu hgr (i := a) ha (calcW 11 x y)
      have HF : Hid (Post (.returned (.tuple #[])) ((u2.setCell ⟨M, 4, none⟩ (.slice lo2' ((s.out x).leak.length + 1) lc2')).drew.setCell ⟨g2, a, none⟩ (.int .i64 (calcW 11 x y)))) := hp _ (by simpa [hy] using q1) q2
      clear hp q1 q2 W4 Wd hrow hbu
      go_wp2_with (go_at_call 172; refine (calcW_any 11 x y _ (by omega) (fun _ => hy)).mono ?_; rintro e w' ⟨rfl, rfl⟩)
      generalize calcW 11 x y = v at *
      refine wp_tail 8 (by kernel_rfl) (by kernel_rfl) ?_
      simp only [List.take_succ_cons, List.take_zero, List.drop_succ_cons, List.drop_zero]
      repeat still_step
      refine wpStill_nil ?_
      go_wp2
      go_end0
      exact HF.out
  · have h11' : (k == 11) = false := by simp [h11]
    rw [if_neg h11] at hp
    have Wd := Wp.below ((Below.refl _ _).drew)
    obtain ⟨rv, cv, sv, lv, hrow, hbu, hK⟩ := id Wd.mach
    obtain ⟨g2, rc2, hrv, hgr, hrc2, hrf2⟩ := hbu.regs.at (i := a) ha
    subst hrv
    have m1 := hrow.cell (i := 1) rfl
    have o1 := Wd.row.cell (i := 1) rfl
    have f2 := hrf2 a
    have hai : (0 : Int) ≤ (a : Int) := by omega
    have haj : (a : Int) < ((s).regs.length : Int) := by show (a : Int) < (s.regs.length : Int); omega
    obtain ⟨q1, q2⟩ := Wd.setReg hrow hbu hgr (i := a) ha (calcW k x y)
    have HF : Hid (Post (.returned (.tuple #[])) (wp.drew.setCell ⟨g2, a, none⟩ (.int .i64 (calcW k x y)))) := hp _ q1 q2
    clear hp q1 q2 Wp Wd hrow hbu
    go_wp2_with (go_at_call 172; refine (calcW_any k x y _ hk (fun e => absurd e h11)).mono ?_; rintro e w' ⟨rfl, rfl⟩)
    generalize calcW k x y = v at *
    refine wp_tail 8 (by kernel_rfl) (by kernel_rfl) ?_
    simp only [List.take_succ_cons, List.take_zero, List.drop_succ_cons, List.drop_zero]
    repeat still_step
    refine wpStill_nil ?_
    go_wp2
    go_end0
    exact HF.out

set_option maxHeartbeats 1000000 in
theorem does_cps (K : Nat → Prop) (t r : Int) (M : Nat) (s : RunD) (o : OpD) (regs data slots : Int) (w : World) (h : RefS K t r w M s) (hl : s.leak.length ≤ 99998) (hz : Sized s regs data slots) (hg : opGood regs slots o = true) (Post : Ending → World → Prop)
    (hp : ∀ w', RefS K t r w' M (stepOp s o) → Keep (fun g => ¬ K g) w w' → Post (.returned (.tuple #[])) w') :
    Calls Tryz.prog 145 #[.pointer (some ⟨M, 0, none⟩), .agg #[.int .i64 o.kind, .int .i64 o.a, .int .i64 o.b, .int .i64 o.c]] w Post := by
  have hkk := opGood_kind hg
  obtain ⟨k, a, b, c⟩ := o
  simp only at hkk ⊢
  by_cases h1 : k = 1
  · subst h1
    exact does_1 K t r M s a b c regs data slots w h (by omega) hz hg Post hp
  by_cases h2 : k = 2
  · subst h2
    exact does_2 K t r M s a b c regs data slots w h (by omega) hz hg Post hp
  by_cases h12 : k = 12
  · subst h12
    exact does_12 K t r M s a b c regs data slots w h (by omega) hz hg Post hp
  by_cases h13 : k = 13
  · subst h13
    exact does_13 K t r M s a b c regs data slots w h (by omega) hz hg Post hp
  by_cases h14 : k = 14
  · subst h14
    exact does_14 K t r M s a b c regs data slots w h (by omega) hz hg Post hp
  by_cases h15 : k = 15
  · subst h15
    exact does_15 K t r M s a b c regs data slots w h (by omega) hz hg Post hp
  obtain ⟨zr, zc, zs⟩ := hz
  have hk3 : 3 ≤ k ∧ k ≤ 11 := by omega
  have hgg : (0 ≤ a ∧ a < regs) ∧ (0 ≤ b ∧ b < regs) ∧ 0 ≤ c ∧ c < regs := by
    unfold opGood at hg
    rw [if_neg (by simpa using h1), if_pos (by simpa using hk3)] at hg
    simp [below] at hg
    omega
  clear hg
  obtain ⟨ga, gb, gc⟩ := hgg
  obtain ⟨a, rfl⟩ := Int.eq_ofNat_of_zero_le ga.1
  obtain ⟨b, rfl⟩ := Int.eq_ofNat_of_zero_le gb.1
  obtain ⟨c, rfl⟩ := Int.eq_ofNat_of_zero_le gc.1
  refine does_calc K t r M s k a b c w h hl hk3 (by omega) (by omega) (by omega) Post (fun w' hm hk => hp w' ?_ hk)
  unfold stepOp
  simp only [h1, h2, h12, h13, h14, h15, if_false]
  by_cases h11 : k = 11
  · subst h11; simpa using hm
  · simpa [h11] using hm

end Go.Proofs.YtblhmeidbjigaabGreatDoor
