/- The owner writes into each list of a program. -/
import Derived.Test.YtblhmeidbjigaaaRows
import Derived.WalkKit
import Derived.WalkSpells
import Derived.WalkLawsBesides
import Derived.Laws.BytesArg
import Derived.Deep.QuietTactic
import Derived.BigQuiet
import Derived.Deep.RegionHeld3
import Derived.ProofKit
import Derived.SizedLaws
import Derived.Deep.Slices
import Derived.Lib.SmallJoins
import Derived.Test.YtblhmeidbjigaaaPStoToPLawICodes

set_option linter.unusedSimpArgs false
set_option linter.unusedVariables false
namespace Go.Proofs.Ytblhmeidbjigaaa
open Go.RowKit

/-- The first k blocks bear their marks. -/
def MkdP (mark : Int) (k : Nat) (hv : List (BlockD × Value)) : Prop := ∀ i (hi : i < hv.length), i < k → hv[i].1.fin.kind = mark + i ∧ ∀ j, j < hv[i].1.ops.length → okind hv[i].1.ops j = mark + i

theorem MkdP.set {mark : Int} {k : Nat} {hv : List (BlockD × Value)} (h : MkdP mark k hv) (x : BlockD × Value) : MkdP mark k (hv.set k x) := by
  intro i hi hik
  have e : (hv.set k x)[i] = hv[i]'(by simpa using hi) := by rw [List.getElem_set, if_neg (by omega)]
  rw [e]
  exact h i _ hik

set_option maxRecDepth 100000 in
set_option maxHeartbeats 4000000 in
theorem ownProg_any (a0 a1 a2 a3 : Int) (v : Value) (hv : List (BlockD × Value)) (w : World) (base : Nat) (mark : Int) (hown : OwnBlocks w base v hv) (hbs : base ≤ w.heap.size) (hl : hv.length ≤ 1000) (hl2 : ∀ x ∈ hv, x.1.ops.length ≤ 1000) (hm : 0 ≤ mark ∧ mark ≤ 4611686018427387904)
    (S : Nat → Prop) (hSv : ∀ g, v.ownBlock = some g → S g) (hSx : ∀ x ∈ hv, ∀ g, x.2.ownBlock = some g → S g) :
    Calls Try.prog 35 #[.agg #[.int .i64 a0, .int .i64 a1, .int .i64 a2, .int .i64 a3, v], .int .i64 mark] w fun e w' => e = .returned (.bool true) ∧ (∃ hv', OwnBlocks w' base v hv') ∧ Keep S w w' := by
  obtain ⟨ao, cap, rfl⟩ := owns_slice hown.row
  go_enter Try.func35, Try.ntmps35
  go_wp2
  go_loopw [5] (fun i wr => ∃ (k : Nat) (hu : List (BlockD × Value)), k ≤ hv.length ∧ i = .int .i64 k ∧ Hid (hu.length = hv.length) ∧ Hid (∀ x ∈ hu, x.1.ops.length ≤ 1000) ∧ Hid (∀ x ∈ hu, ∀ g, x.2.ownBlock = some g → g < w.heap.size ∧ S g) ∧ MkdP mark k hu ∧ OwnBlocks wr base (.slice ao hv.length cap) hu ∧ wr.cell? ⟨w.heap.size, 4, none⟩ = some (.slice ao hv.length cap) ∧ Keep S w wr ∧ w.heap.size + 1 ≤ wr.heap.size)
    (fun i _ => hv.length - (intOf i).toNat)
  case atStart => exact ⟨0, hv, Nat.zero_le _, rfl, rfl, hl2, fun x hx g hg => ⟨((hown.each x hx).lt g hg).2, hSx x hx g hg⟩, fun i hi h0 => by omega, hown.alloc _, by simp, (Keep.refl _ _).alloc _, by simp⟩
  case round =>
    obtain ⟨k, hu, hk, rfl, hlen, hlp, hlo, hmk, ho, hx0, hbel, hz⟩ := hrel
    have hzl : w.heap.size < wr.heap.size := by omega
    by_cases hlt : k < hv.length
    case neg =>
      obtain ⟨wo, hwo⟩ : ∃ wo, wo = wr := ⟨_, rfl⟩
      subst hwo
      have hmk0 : MkdP mark hu.length hu := fun i hi _ => hmk i hi (by have := hlen.out; omega)
      go_wp2
      clear hmk hown
      go_loop [7] (fun i => ∃ (j : Nat), j ≤ hv.length ∧ i = .int .i64 j) (fun i => hv.length - (intOf i).toNat)
      case atStart => exact ⟨0, Nat.zero_le _, rfl⟩
      case round =>
        obtain ⟨j, hj, rfl⟩ := hrel
        by_cases hjl : j < hv.length
        case neg =>
          go_wp2
          go_ret
          exact ⟨rfl, ⟨_, ho⟩, hbel⟩
        have hju : j < hu.length := by rw [hlen.out]; exact hjl
        obtain ⟨b, rfl, hbb, c2, c1, c3, c4, c5, cf⟩ := ownBlocks_at ho hju
        have hrow := ho.each _ (List.getElem_mem hju)
        have hpl := hlp.out _ (List.getElem_mem hju)
        have hmj := hmk0 j hju hju
        rw [hmj.1] at c1
        have hmp : Hid (∀ i, i < hu[j].1.ops.length → okind hu[j].1.ops i = mark + j) := hmj.2
        obtain ⟨so, sc, hsv⟩ := owns_slice hrow
        rw [hsv] at c2 hrow
        clear hmj hsv
        generalize hu[j].1.ops = ps at *
        have hnq : (mark + (j : Int) != mark + (j : Int)) = false := by simp
        go_wp2
        go_loop [8] (fun i => ∃ (m : Nat), m ≤ ps.length ∧ i = .int .i64 m) (fun i => ps.length - (intOf i).toNat)
        case atStart => exact ⟨0, Nat.zero_le _, rfl⟩
        case round =>
          obtain ⟨m, hmn, rfl⟩ := hrel
          by_cases hml : m < ps.length
          · obtain ⟨g, rfl, hgb, d1, d2, d3, d4, df⟩ := owns_ops_at hrow hml
            rw [hmp.out m hml] at d1
            go_wp2
            go_round
            case rel => exact ⟨m + 1, by omega, by go_num⟩
            case measure => simp [intOf]; omega
          · go_wp2
            go_round
            case rel => exact ⟨j + 1, by omega, by go_num⟩
            case measure => simp [intOf]; omega
    obtain ⟨wo, hwo⟩ : ∃ wo, wo = wr := ⟨_, rfl⟩
    subst hwo
    have hku : k < hu.length := by rw [hlen.out]; exact hlt
    obtain ⟨b, rfl, hbb, c2, c1, c3, c4, c5, cf⟩ := ownBlocks_at ho hku
    have hbw : b < w.heap.size := ((hown.row).lt b rfl).2
    have cf1 := cf (k * 5 + 1)
    have cf2 := cf (k * 5 + 2)
    have cf3 := cf (k * 5 + 3)
    have cf4 := cf (k * 5 + 4)
    have ho1 := ho.setEnd hku (mark + k) 0 0 0
    have hmk1 := hmk.set (⟨hu[k].1.ops, ⟨mark + k, 0, 0, 0⟩⟩, hu[k].2)
    have hlen1 : Hid ((hu.set k (⟨hu[k].1.ops, ⟨mark + k, 0, 0, 0⟩⟩, hu[k].2)).length = hv.length) := by show List.length _ = _; rw [List.length_set]; exact hlen.out
    have hlp1 : Hid (∀ x ∈ hu.set k (⟨hu[k].1.ops, ⟨mark + k, 0, 0, 0⟩⟩, hu[k].2), x.1.ops.length ≤ 1000) := by
      intro x hx
      rcases List.mem_or_eq_of_mem_set hx with hx | rfl
      · exact hlp.out x hx
      · exact hlp.out hu[k] (List.getElem_mem hku)
    have hlo1 : Hid (∀ x ∈ hu.set k (⟨hu[k].1.ops, ⟨mark + k, 0, 0, 0⟩⟩, hu[k].2), ∀ g, x.2.ownBlock = some g → g < w.heap.size ∧ S g) := by
      intro x hx
      rcases List.mem_or_eq_of_mem_set hx with hx | rfl
      · exact hlo.out x hx
      · exact hlo.out hu[k] (List.getElem_mem hku)
    have hsk : Hid (bek (bdat (hu.set k (⟨hu[k].1.ops, ⟨mark + k, 0, 0, 0⟩⟩, hu[k].2))) k = mark + k) := by
      show bek _ _ = _
      unfold bek
      rw [(bdat_get _ (by rw [List.length_set]; exact hku)).2, List.getElem_set_self]
    have hx1 : (set4 wo b (k * 5 + 1) (mark + k) 0 0 0).cell? ⟨w.heap.size, 4, none⟩ = some (.slice (some ⟨b, 0, none⟩) hv.length cap) := cell_unset4 (by simp; omega) hx0
    have hb1 := hbel.set4 (o := k * 5 + 1) (.inl (hSv b rfl)) (mark + k) 0 0 0
    have hz1 : w.heap.size + 1 ≤ (set4 wo b (k * 5 + 1) (mark + k) 0 0 0).heap.size := by rw [set4_size]; exact hz
    have HW : Hid (set4 wo b (k * 5 + 1) (mark + k) 0 0 0 = (((wo.setCell ⟨b, k * 5 + 1, none⟩ (.int .i64 (mark + k))).setCell ⟨b, k * 5 + 2, none⟩ (.int .i64 0)).setCell ⟨b, k * 5 + 3, none⟩ (.int .i64 0)).setCell ⟨b, k * 5 + 4, none⟩ (.int .i64 0)) := rfl
    go_wp2
    rw [← HW.out]
    clear HW
    generalize hu.set k (⟨hu[k].1.ops, ⟨mark + k, 0, 0, 0⟩⟩, hu[k].2) = h1 at *
    generalize set4 wo b (k * 5 + 1) (mark + k) 0 0 0 = w1 at *
    clear hmk hlen hlp hlo ho hx0 hbel hz hzl hku c1 c2 c3 c4 c5 cf cf1 cf2 cf3 cf4 hu wo
    go_loopw [6] (fun i w2 => ∃ (j : Nat) (hu : List (BlockD × Value)), j ≤ 1000 ∧ i = .int .i64 j ∧ Hid (hu.length = hv.length) ∧ Hid (∀ x ∈ hu, x.1.ops.length ≤ 1000) ∧ Hid (∀ x ∈ hu, ∀ g, x.2.ownBlock = some g → g < w.heap.size ∧ S g) ∧ MkdP mark k hu ∧ Hid (bek (bdat hu) k = mark + k) ∧ Hid (j ≤ (bops (bdat hu) k).length ∧ ∀ i, i < j → okind (bops (bdat hu) k) i = mark + k) ∧
        OwnBlocks w2 base (.slice (some ⟨b, 0, none⟩) hv.length cap) hu ∧ w2.cell? ⟨w.heap.size, 4, none⟩ = some (.slice (some ⟨b, 0, none⟩) hv.length cap) ∧ Keep S w w2 ∧ w.heap.size + 1 ≤ w2.heap.size)
      (fun i _ => 1000 - (intOf i).toNat)
    case atStart => exact ⟨0, h1, by omega, rfl, hlen1, hlp1, hlo1, hmk1, hsk, ⟨Nat.zero_le _, fun i hi => by omega⟩, ho1, hx1, hb1, hz1⟩
    case round =>
      clear hlen1 hlp1 hlo1 hmk1 hsk ho1 hx1 hb1 hz1
      obtain ⟨j, hu, hj, rfl, hlen, hlp, hlo, hmk, hsk, hpj, ho, hx0, hbel, hz⟩ := hrel
      have hku : k < hu.length := by rw [hlen.out]; exact hlt
      have hzl : w.heap.size < wr.heap.size := by omega
      obtain ⟨b', e0, _, c2, c1, c3, c4, c5, cf⟩ := ownBlocks_at ho hku
      simp only [Option.some.injEq, Addr.mk.injEq, and_true] at e0
      obtain rfl := e0
      have hrow := ho.each _ (List.getElem_mem hku)
      have hpl := hlp.out _ (List.getElem_mem hku)
      have hlok := hlo.out _ (List.getElem_mem hku)
      have HE : Hid (bops (bdat hu) k = hu[k].1.ops ∧ bfin (bdat hu) k = hu[k].1.fin) := bdat_get hu hku
      obtain ⟨so, sc, hsv⟩ := owns_slice hrow
      have hpj' : Hid (j ≤ hu[k].1.ops.length ∧ ∀ i, i < j → okind hu[k].1.ops i = mark + k) := by have := hpj.out; rw [HE.out.1] at this; exact this
      have hsk' : Hid (hu[k].1.fin.kind = mark + k) := by have := hsk.out; unfold bek at this; rw [HE.out.2] at this; exact this
      have HSV : Hid (hu[k].2 = .slice so hu[k].1.ops.length sc) := hsv
      rw [hsv] at c2
      obtain ⟨n, hn⟩ : ∃ n, n = hu[k].1.ops.length := ⟨_, rfl⟩
      rw [← hn] at c2
      have HN : Hid (n = hu[k].1.ops.length) := hn
      have hn1000 : n ≤ 1000 := by rw [hn]; exact hpl
      by_cases hjn : j < n
      case neg =>
        have hmk' : MkdP mark (k + 1) hu := by
          intro i hi hik
          by_cases e : i = k
          · subst e
            exact ⟨hsk'.out, fun i' hi' => hpj'.out.2 i' (by omega)⟩
          · exact hmk i hi (by omega)
        clear hsv hn hpj hsk hpj' hsk' hmk HE HSV HN hrow
        go_wp2
        go_roundw
        case rel => exact ⟨k + 1, hu, by omega, by go_num, hlen, hlp, hlo, hmk', ho, hx0, hbel, hz⟩
        case measure => simp [intOf]; omega
      have hrow2 : wr.ownsRow base 101 4 (.slice so n sc) hu[k].1.ops.length (opCells hu[k].1.ops) := by rw [hsv, ← hn] at hrow; rw [← hn]; exact hrow
      obtain ⟨g, rfl, hgb, d1, d2, d3, d4, df⟩ := owns_ops_at hrow2 (j := j) (by omega)
      have df0 := df (j * 4)
      have df1 := df (j * 4 + 1)
      have df2 := df (j * 4 + 2)
      have df3 := df (j * 4 + 3)
      have hgo : hu[k].2.ownBlock = some g := by rw [hsv]; rfl
      have hgw : g < w.heap.size := (hlok g hgo).1
      have hgS := (hlok g hgo).2
      have ho' := ho.setOp hku hgo (j := j) (by omega) (mark + k) 0 0 0
      have hmk' := hmk.set (⟨hu[k].1.ops.set j ⟨mark + k, 0, 0, 0⟩, hu[k].1.fin⟩, hu[k].2)
      have hlen' : Hid ((hu.set k (⟨hu[k].1.ops.set j ⟨mark + k, 0, 0, 0⟩, hu[k].1.fin⟩, hu[k].2)).length = hv.length) := by show List.length _ = _; rw [List.length_set]; exact hlen.out
      have hlp' : Hid (∀ x ∈ hu.set k (⟨hu[k].1.ops.set j ⟨mark + k, 0, 0, 0⟩, hu[k].1.fin⟩, hu[k].2), x.1.ops.length ≤ 1000) := by
        intro x hx
        rcases List.mem_or_eq_of_mem_set hx with hx | rfl
        · exact hlp.out x hx
        · show List.length (List.set _ _ _) ≤ 1000
          rw [List.length_set]; exact hpl
      have hlo' : Hid (∀ x ∈ hu.set k (⟨hu[k].1.ops.set j ⟨mark + k, 0, 0, 0⟩, hu[k].1.fin⟩, hu[k].2), ∀ g, x.2.ownBlock = some g → g < w.heap.size ∧ S g) := by
        intro x hx
        rcases List.mem_or_eq_of_mem_set hx with hx | rfl
        · exact hlo.out x hx
        · exact hlok
      have hq := bdat_get (hu.set k (⟨hu[k].1.ops.set j ⟨mark + k, 0, 0, 0⟩, hu[k].1.fin⟩, hu[k].2)) (i := k) (by rw [List.length_set]; exact hku)
      rw [List.getElem_set_self] at hq
      have hsk2 : Hid (bek (bdat (hu.set k (⟨hu[k].1.ops.set j ⟨mark + k, 0, 0, 0⟩, hu[k].1.fin⟩, hu[k].2))) k = mark + k) := by show bek _ _ = _; unfold bek; rw [hq.2]; exact hsk'.out
      have hpj2 : Hid (j + 1 ≤ (bops (bdat (hu.set k (⟨hu[k].1.ops.set j ⟨mark + k, 0, 0, 0⟩, hu[k].1.fin⟩, hu[k].2))) k).length ∧ ∀ i, i < j + 1 → okind (bops (bdat (hu.set k (⟨hu[k].1.ops.set j ⟨mark + k, 0, 0, 0⟩, hu[k].1.fin⟩, hu[k].2))) k) i = mark + k) := by
        show _ ∧ _
        rw [hq.1]
        refine ⟨by simp only [List.length_set]; omega, fun i hi => ?_⟩
        by_cases e : i = j
        · subst e
          simp [okind, List.getD, show i < hu[k].1.ops.length by omega]
        · have := hpj'.out.2 i (by omega)
          simp only [okind, List.getD, List.getElem?_set_ne (fun h => e h.symm)] at this ⊢
          exact this
      have hx1 : (set4 wr g (j * 4) (mark + k) 0 0 0).cell? ⟨w.heap.size, 4, none⟩ = some (.slice (some ⟨b, 0, none⟩) hv.length cap) := cell_unset4 (by simp; omega) hx0
      have hb1 := hbel.set4 (o := j * 4) (.inl hgS) (mark + k) 0 0 0
      have hz1 : w.heap.size + 1 ≤ (set4 wr g (j * 4) (mark + k) 0 0 0).heap.size := by rw [set4_size]; exact hz
      have HW : Hid (set4 wr g (j * 4) (mark + k) 0 0 0 = (((wr.setCell ⟨g, j * 4, none⟩ (.int .i64 (mark + k))).setCell ⟨g, j * 4 + 1, none⟩ (.int .i64 0)).setCell ⟨g, j * 4 + 2, none⟩ (.int .i64 0)).setCell ⟨g, j * 4 + 3, none⟩ (.int .i64 0)) := rfl
      generalize hu.set k (⟨hu[k].1.ops.set j ⟨mark + k, 0, 0, 0⟩, hu[k].1.fin⟩, hu[k].2) = h2 at *
      clear hsv hn hpj hsk hpj' hsk' hmk HE HSV HN hrow hrow2 hq ho hlen hlp hlo
      go_wp2
      rw [← HW.out]
      clear HW
      generalize set4 wr g (j * 4) (mark + k) 0 0 0 = w3 at *
      go_roundw
      case rel => exact ⟨j + 1, h2, by omega, by go_num, hlen', hlp', hlo', hmk', hsk2, hpj2, ho', hx1, hb1, hz1⟩
      case measure => simp [intOf]; omega

end Go.Proofs.Ytblhmeidbjigaaa

/- The law on programs: writing. -/
set_option linter.unusedSimpArgs false
set_option linter.unusedVariables false
namespace Go.Proofs.Ytblhmeidbjigaaa
open Go.RowKit

set_option maxRecDepth 100000 in
set_option maxHeartbeats 4000000 in
theorem encoded_any (a0 a1 a2 a3 : Int) (u : Value) (l : List BlockD) (w : World) (hr : RdBlocks w u l) (hn : l.length ≤ 2513169434916) (hn2 : ∀ k, k < l.length → (bops l k).length ≤ 4398046511104) :
    Calls Try.prog 8 #[.agg #[.int .i64 a0, .int .i64 a1, .int .i64 a2, .int .i64 a3, u]] w fun e w' => e = .returned (.bool true) ∧ Below w.heap.size w w' := by
  obtain ⟨uo, uc, e0, _, _⟩ := id hr
  subst e0
  have hbU : Below w.heap.size w (w.alloc (.cells #[.int .i64 a0, .int .i64 a1, .int .i64 a2, .int .i64 a3, .slice uo l.length uc] 24)) := (Below.refl w.heap.size w).alloc (Nat.le_refl _) _
  have WU : Row (w.alloc (.cells #[.int .i64 a0, .int .i64 a1, .int .i64 a2, .int .i64 a3, .slice uo l.length uc] 24)) w.heap.size 24 [.int .i64 a0, .int .i64 a1, .int .i64 a2, .int .i64 a3, .slice uo l.length uc] := heap_alloc_new w _
  have hr1 := hr.keep hbU
  go_enter Try.func8, Try.ntmps8
  go_wp2_with fail
  refine roomyProg_cps a0 a1 a2 a3 _ l _ hr1 hn hn2 _ ?_
  intro w1 bv L D hdt hlies hL hD hb1
  have VU := WU.keep hb1
  have hb1' : Below (w.heap.size + 1) (w.alloc (.cells #[.int .i64 a0, .int .i64 a1, .int .i64 a2, .int .i64 a3, .slice uo l.length uc] 24)) w1 := by simpa using hb1
  have hz1 := hb1'.size
  simp at hz1
  have hb01 := Below.under hb1'
  have x0 := VU.cell (i := 0) rfl
  have x1 := VU.cell (i := 1) rfl
  have x2 := VU.cell (i := 2) rfl
  have x3 := VU.cell (i := 3) rfl
  have x4 := VU.cell (i := 4) rfl
  have hvl : bv.length = l.length := by rw [← hdt, bdat_length]
  have n2 : ∀ x ∈ bv, x.1.ops.length ≤ 4398046511104 := by
    intro x hx
    obtain ⟨k, hk, rfl⟩ := List.getElem_of_mem hx
    have := hn2 k (by omega)
    rw [← hdt, (bdat_get bv hk).1] at this
    exact this
  have HV : Hid (bv.length = l.length) := hvl
  have rg := rows_rdb (cap := bv.length + 1) hlies hL (by omega) (fun x hx => by have := n2 x hx; omega)
  rw [hdt] at rg
  have HD : Hid (bdat bv = l) := hdt
  clear hb1 hvl hdt
  have hzl : w.heap.size < w1.heap.size := by omega
  -- Encode
  have WL : Row (w1.alloc (.cells #[.int .i64 a0, .int .i64 a1, .int .i64 a2, .int .i64 a3, .slice (some ⟨L, 0, none⟩) bv.length (bv.length + 1)] 24)) w1.heap.size 24 [.int .i64 a0, .int .i64 a1, .int .i64 a2, .int .i64 a3, .slice (some ⟨L, 0, none⟩) bv.length (bv.length + 1)] := heap_alloc_new w1 _
  have hc := tEncode_any ⟨a0, a1, a2, a3, l⟩ _ (w1.alloc (.cells #[.int .i64 a0, .int .i64 a1, .int .i64 a2, .int .i64 a3, .slice (some ⟨L, 0, none⟩) bv.length (bv.length + 1)] 24)) (rg.keep ((Below.refl _ _).alloc (Nat.le_refl _) _))
  simp only [progV] at hc
  go_wp2_with fail
  refine hc.mono ?_
  clear hc
  rintro e w2 ⟨rfl, hb2⟩
  have VL := WL.keep hb2
  have hb2' : Below (w1.heap.size + 1) (w1.alloc (.cells #[.int .i64 a0, .int .i64 a1, .int .i64 a2, .int .i64 a3, .slice (some ⟨L, 0, none⟩) bv.length (bv.length + 1)] 24)) w2 := by simpa using hb2
  have hb12 := Below.under hb2'
  have hz2 := hb2'.size
  simp at hz2
  have VU2 := VU.keep hb12
  have y0 := VU2.cell (i := 0) rfl
  have y1 := VU2.cell (i := 1) rfl
  have y2 := VU2.cell (i := 2) rfl
  have y3 := VU2.cell (i := 3) rfl
  have y4 := VU2.cell (i := 4) rfl
  have z0 := VL.cell (i := 0) rfl
  have z1 := VL.cell (i := 1) rfl
  have z2 := VL.cell (i := 2) rfl
  have z3 := VL.cell (i := 3) rfl
  have z4 := VL.cell (i := 4) rfl
  have hb02 := hb01.trans (hb12.mono (by omega))
  have hu2 := hr.keep hb02
  have hu2' : RdBlocks w2 (.slice uo l.length uc) (bdat bv) := by rw [HD.out]; exact hu2
  have hw := wholeProg_any a0 a1 a2 a3 bv L D _ _ w2 (hlies.keep hb12) (hL.keep hb12) (hD.keep hb12) hu2' (by rw [HV.out]; exact hn) n2
  clear hb2 hb2' x0 x1 x2 x3 x4
  cases hg : progGood ⟨a0, a1, a2, a3, l⟩
  · simp only [Bool.false_eq_true, if_false]
    go_wp2_with fail
    refine hw.mono ?_
    clear hw
    rintro e w3 ⟨rfl, hb3⟩
    have VU3 := VU2.keep hb3
    have t0 := VU3.cell (i := 0) rfl
    have t1 := VU3.cell (i := 1) rfl
    have t2 := VU3.cell (i := 2) rfl
    have t3 := VU3.cell (i := 3) rfl
    have t4 := VU3.cell (i := 4) rfl
    have hb03 := hb02.trans (hb3.mono (by omega))
    have hz3 := hb3.size
    clear y0 y1 y2 y3 y4 z0 z1 z2 z3 z4
    go_wp2_with fail
    refine (rGood_any a0 a1 a2 a3 _ l _ (hr.keep hb03)).mono ?_
    rintro e w4 ⟨rfl, hb4⟩
    have hb04 := hb03.trans (hb4.mono (by omega))
    clear hlies hL hD rg hu2 hu2' t0 t1 t2 t3 t4
    rw [hg]
    go_wp2
    go_ret
    exact ⟨by simp, hb04⟩
  · simp only [if_true]
    go_wp2_with fail
    refine hw.mono ?_
    clear hw
    rintro e w3 ⟨rfl, hb3⟩
    have VU3 := VU2.keep hb3
    have t0 := VU3.cell (i := 0) rfl
    have t1 := VU3.cell (i := 1) rfl
    have t2 := VU3.cell (i := 2) rfl
    have t3 := VU3.cell (i := 3) rfl
    have t4 := VU3.cell (i := 4) rfl
    have hb03 := hb02.trans (hb3.mono (by omega))
    have hz3 := hb3.size
    clear y0 y1 y2 y3 y4 z0 z1 z2 z3 z4
    go_wp2_with fail
    refine (rGood_any a0 a1 a2 a3 _ l _ (hr.keep hb03)).mono ?_
    rintro e w4 ⟨rfl, hb4⟩
    have VU4 := VU3.keep hb4
    have hb04 := hb03.trans (hb4.mono (by omega))
    have hz4 := hb4.size
    clear hlies hL hD rg hu2 hu2' t0 t1 t2 t3 t4
    have t0 := VU4.cell (i := 0) rfl
    have t1 := VU4.cell (i := 1) rfl
    have t2 := VU4.cell (i := 2) rfl
    have t3 := VU4.cell (i := 3) rfl
    have t4 := VU4.cell (i := 4) rfl
    rw [hg]
    go_wp2_with fail
    refine (rText_any ⟨a0, a1, a2, a3, l⟩ _ _ (hr.keep hb04) hg).mono ?_
    rintro e w5 ⟨rfl, hb5⟩
    have hb05 := hb04.trans (hb5.mono (by omega))
    have hs := toList_self (str (progText ⟨a0, a1, a2, a3, l⟩))
    clear t0 t1 t2 t3 t4
    go_wp2
    go_ret
    exact ⟨by simp, hb05⟩

end Go.Proofs.Ytblhmeidbjigaaa

/- The law on programs: reading. -/
set_option linter.unusedSimpArgs false
set_option linter.unusedVariables false
namespace Go.Proofs.Ytblhmeidbjigaaa
open Go.RowKit

theorem Row.kept {S : Nat → Prop} {w w' : World} {g : Nat} {e : TypeId} {xs : List Value} (h : Row w g e xs) (hk : Keep S w w') (hn : ¬ S g) : Row w' g e xs := h.same (hk.block g h.lt hn)

theorem OwnBlocks.apartFrom {S : Nat → Prop} {w w' : World} {base : Nat} {v : Value} {bv : List (BlockD × Value)} (h : OwnBlocks w base v bv) (hk : Keep S w w') (hS : ∀ g, S g → g < base) : OwnBlocks w' base v bv := by
  have key : ∀ (e : TypeId) (sz : Nat) (u : Value) (n : Nat) (xs : List Value), w.ownsRow base e sz u n xs → w'.ownsRow base e sz u n xs := by
    intro e sz u n xs hu
    refine owns_same hu fun g hg => hk.block g (hu.lt g hg).2 (fun hs => ?_)
    have := hS g hs
    have := (hu.lt g hg).1
    omega
  exact ⟨key _ _ _ _ _ h.row, fun x hx => key _ _ _ _ _ (h.each x hx), h.apart⟩

/-- The blocks of memory that a program's lists lie in. -/
def bblk (v : Value) (bv : List (BlockD × Value)) (g : Nat) : Prop := v.ownBlock = some g ∨ ∃ x ∈ bv, x.2.ownBlock = some g

theorem bblk_lt {w : World} {base : Nat} {v : Value} {bv : List (BlockD × Value)} (h : OwnBlocks w base v bv) : ∀ g, bblk v bv g → base ≤ g ∧ g < w.heap.size := by
  rintro g (hg | ⟨x, hx, hg⟩)
  · exact h.row.lt g hg
  · exact (h.each x hx).lt g hg

theorem good_smallP {bv : List (BlockD × Value)} {p : ProgD} (hd : bdat bv = p.blocks) (hg : progGood p = true) : bv.length ≤ 1000 ∧ ∀ x ∈ bv, x.1.ops.length ≤ 1000 := by
  have h1 := progGood_len hg
  rw [← hd, bdat_length] at h1
  refine ⟨by omega, fun x hx => ?_⟩
  have := progGood_block hg x.1 (by rw [← hd]; exact List.mem_map.2 ⟨x, hx, rfl⟩)
  simp [blockGood] at this
  omega

set_option maxRecDepth 100000 in
set_option maxHeartbeats 8000000 in
theorem decoded_cps (s : ByteArray) (k : Int) (w : World) (hs : s.size ≤ maxLen) (hk : 0 ≤ k ∧ k ≤ 4611686018427387) (Post : Ending → World → Prop)
    (hpost : ∀ a0 a1 a2 a3 v bv w', OwnBlocks w' w.heap.size v bv → Below w.heap.size w w' → Post (.returned (.tuple #[.agg #[.int .i64 a0, .int .i64 a1, .int .i64 a2, .int .i64 a3, v], .bool true])) w') :
    Calls Try.prog 9 #[.string s, .int .i64 k] w Post := by
  have HP : Hid (∀ a0 a1 a2 a3 v bv w', OwnBlocks w' w.heap.size v bv → Below w.heap.size w w' → Post (.returned (.tuple #[.agg #[.int .i64 a0, .int .i64 a1, .int .i64 a2, .int .i64 a3, v], .bool true])) w') := hpost
  clear hpost
  have R0 : Row (w.alloc (.cells #[.int .i64 0, .int .i64 0, .int .i64 0, .int .i64 0, .slice none 0 0] 24)) w.heap.size 24 [.int .i64 0, .int .i64 0, .int .i64 0, .int .i64 0, .slice none 0 0] := heap_alloc_new w _
  go_enter Try.func9, Try.ntmps9
  go_wp2_with fail
  refine tDecode_cps s _ hs _ ?_ ?_
  · intro a0 a1 a2 a3 l v1 bv1 w1 own1 hd1 g1 ht1 hb1
    have hsm1 := good_smallP (p := ⟨a0, a1, a2, a3, l⟩) hd1 g1
    have hb1' : Below (w.heap.size + 1) (w.alloc (.cells #[.int .i64 0, .int .i64 0, .int .i64 0, .int .i64 0, .slice none 0 0] 24)) w1 := by simpa using hb1
    have hz1 := hb1'.size
    simp at hz1
    have R1 := R0.keep hb1
    have hb01 := Below.under hb1'
    have hzl : w.heap.size < w1.heap.size := by omega
    clear hb1
    obtain ⟨ao1, c1, rfl⟩ := owns_slice own1.row
    have own1 : OwnBlocks w1 (w.heap.size + 1) (.slice ao1 bv1.length c1) bv1 := by simpa using own1
    have V1 : Row (w1.alloc (.cells #[.int .i64 a0, .int .i64 a1, .int .i64 a2, .int .i64 a3, .slice ao1 bv1.length c1] 24)) w1.heap.size 24 [.int .i64 a0, .int .i64 a1, .int .i64 a2, .int .i64 a3, .slice ao1 bv1.length c1] := heap_alloc_new w1 _
    have hc := rDecode_any s (w1.alloc (.cells #[.int .i64 a0, .int .i64 a1, .int .i64 a2, .int .i64 a3, .slice ao1 bv1.length c1] 24)) hs
    go_wp2_with fail
    refine hc.mono ?_
    clear hc
    rintro e w2 ⟨hor, hb2⟩
    have V1 := V1.keep hb2
    have hb2' : Below (w1.heap.size + 1) (w1.alloc (.cells #[.int .i64 a0, .int .i64 a1, .int .i64 a2, .int .i64 a3, .slice ao1 bv1.length c1] 24)) w2 := by simpa using hb2
    clear hb2
    rcases hor with ⟨⟨b0, b1, b2, b3, l2⟩, v2, bv2, rfl, own2, hd2, g2, ht2⟩ | ⟨hno2, rfl⟩
    case inr => exact absurd ht1 (hno2 _ g1)
    obtain ⟨ao2, c2, rfl⟩ := owns_slice own2.row
    have own2 : OwnBlocks w2 (w1.heap.size + 1) (.slice ao2 bv2.length c2) bv2 := by simpa using own2
    have hsame := prog_one g1 g2 (ht1.trans ht2.symm)
    simp only [ProgD.mk.injEq] at hsame
    obtain ⟨rfl, rfl, rfl, rfl, rfl⟩ := hsame
    simp only at hd2
    clear ht1 ht2 g1 g2
    have hz2 := hb2'.size
    simp at hz2
    have hb12 := Below.under hb2'
    have R2 := R1.keep hb12
    have own1' := own1.below hb12 (Nat.le_refl _)
    have hzl2 : w1.heap.size < w2.heap.size := by omega
    have hzl3 : w.heap.size < w2.heap.size := by omega
    have hbA : Below w2.heap.size w2 (w2.alloc (.cells #[.int .i64 a0, .int .i64 a1, .int .i64 a2, .int .i64 a3, .slice ao2 bv2.length c2] 24)) := (Below.refl _ _).alloc (Nat.le_refl _) _
    have V2 : Row (w2.alloc (.cells #[.int .i64 a0, .int .i64 a1, .int .i64 a2, .int .i64 a3, .slice ao2 bv2.length c2] 24)) w2.heap.size 24 [.int .i64 a0, .int .i64 a1, .int .i64 a2, .int .i64 a3, .slice ao2 bv2.length c2] := heap_alloc_new w2 _
    have rd1 := (own1'.alloc (.cells #[.int .i64 a0, .int .i64 a1, .int .i64 a2, .int .i64 a3, .slice ao2 bv2.length c2] 24)).rd
    have rd2 := (own2.alloc (.cells #[.int .i64 a0, .int .i64 a1, .int .i64 a2, .int .i64 a3, .slice ao2 bv2.length c2] 24)).rd
    rw [hd1] at rd1
    rw [hd2] at rd2
    have x0 := V1.cell (i := 0) rfl
    have x1 := V1.cell (i := 1) rfl
    have x2 := V1.cell (i := 2) rfl
    have x3 := V1.cell (i := 3) rfl
    have x4 := V1.cell (i := 4) rfl
    unfold progV
    go_wp2_with fail
    refine (sameProg_any a0 a1 a2 a3 _ _ _ _ rd1 rd2).mono ?_
    rintro e w3 ⟨rfl, hb3⟩
    have V2 := V2.keep hb3
    have hb3' : Below (w2.heap.size + 1) (w2.alloc (.cells #[.int .i64 a0, .int .i64 a1, .int .i64 a2, .int .i64 a3, .slice ao2 bv2.length c2] 24)) w3 := by simpa using hb3
    clear hb3 rd1 rd2 hbA x0 x1 x2 x3 x4
    have hb23 := Below.under hb3'
    have hz3 := hb3'.size
    simp at hz3
    have V1 := V1.keep hb23
    have R3 := R2.keep hb23
    have o31 := own1'.below hb23 (Nat.le_refl _)
    have o32 := own2.below hb23 (Nat.le_refl _)
    have hS : ∀ g, bblk (.slice ao1 bv1.length c1) bv1 g → w.heap.size + 1 ≤ g ∧ g < w1.heap.size := fun g hg => bblk_lt own1 g hg
    have hSv : ∀ g, (Value.slice ao1 bv1.length c1).ownBlock = some g → bblk (.slice ao1 bv1.length c1) bv1 g := fun g hg => .inl hg
    have hSx : ∀ x ∈ (bv1 : List (BlockD × Value)), ∀ g, x.2.ownBlock = some g → bblk (.slice ao1 bv1.length c1) bv1 g := fun x hx g hg => .inr ⟨x, hx, hg⟩
    have hn1 : ¬ bblk (.slice ao1 bv1.length c1) bv1 w1.heap.size := fun h => by have := hS _ h; omega
    have hn2 : ¬ bblk (.slice ao1 bv1.length c1) bv1 w2.heap.size := fun h => by have := hS _ h; omega
    have hn0 : ¬ bblk (.slice ao1 bv1.length c1) bv1 w.heap.size := fun h => by have := hS _ h; omega
    have hbh := behindProg_any a0 a1 a2 a3 (.slice ao1 bv1.length c1) bv1 w3 (w.heap.size + 1) o31 (by omega) hsm1.1 hsm1.2 (bblk (.slice ao1 bv1.length c1) bv1) hSv hSx
    have x0 := V1.cell (i := 0) rfl
    have x1 := V1.cell (i := 1) rfl
    have x2 := V1.cell (i := 2) rfl
    have x3 := V1.cell (i := 3) rfl
    have x4 := V1.cell (i := 4) rfl
    go_wp2_with fail
    refine hbh.mono ?_
    clear hbh
    rintro e w4 ⟨rfl, o41, hk4⟩
    have V1 := V1.kept hk4 hn1
    have V2 := V2.kept hk4 hn2
    have R4 := R3.kept hk4 hn0
    have o42 := o32.apartFrom hk4 (fun g hg => by have := hS g hg; omega)
    have hz4 := hk4.size
    have rd1 := o41.rd
    have rd2 := o42.rd
    rw [hd1] at rd1
    rw [hd2] at rd2
    clear x0 x1 x2 x3 x4
    have x0 := V1.cell (i := 0) rfl
    have x1 := V1.cell (i := 1) rfl
    have x2 := V1.cell (i := 2) rfl
    have x3 := V1.cell (i := 3) rfl
    have x4 := V1.cell (i := 4) rfl
    have y0 := V2.cell (i := 0) rfl
    have y1 := V2.cell (i := 1) rfl
    have y2 := V2.cell (i := 2) rfl
    have y3 := V2.cell (i := 3) rfl
    have y4 := V2.cell (i := 4) rfl
    go_wp2_with fail
    refine (sameProg_any a0 a1 a2 a3 _ _ _ _ rd1 rd2).mono ?_
    rintro e w5 ⟨rfl, hb5⟩
    have V1 := V1.keep hb5
    have R5 := R4.keep hb5
    have o51 := o41.below hb5 (Nat.le_refl _)
    have hz5 := hb5.size
    have hoh := ownProg_any a0 a1 a2 a3 (.slice ao1 bv1.length c1) bv1 w5 (w.heap.size + 1) (77 + 100 * k) o51 (by omega) hsm1.1 hsm1.2 (by omega) (bblk (.slice ao1 bv1.length c1) bv1) hSv hSx
    clear rd1 rd2 x0 x1 x2 x3 x4 y0 y1 y2 y3 y4
    have x0 := V1.cell (i := 0) rfl
    have x1 := V1.cell (i := 1) rfl
    have x2 := V1.cell (i := 2) rfl
    have x3 := V1.cell (i := 3) rfl
    have x4 := V1.cell (i := 4) rfl
    go_wp2_with fail
    refine hoh.mono ?_
    clear hoh
    rintro e w6 ⟨rfl, ⟨bv6, o61⟩, hk6⟩
    have V1 := V1.kept hk6 hn1
    have R6 := R5.kept hk6 hn0
    have B3 := hb01.trans (hb12.mono (by omega)) |>.trans (hb23.mono (by omega))
    have B4 := B3.trans ((hk4.toBelow (B := w.heap.size) (by omega) (fun g hg => by have := hS g hg; omega)))
    have B6 := (B4.trans (hb5.mono (by omega))).trans ((hk6.toBelow (B := w.heap.size) (by omega) (fun g hg => by have := hS g hg; omega)))
    have hfin := HP.out a0 a1 a2 a3 (.slice ao1 bv1.length c1) bv6 (((((w6.setCell ⟨w.heap.size, 0, none⟩ (.int .i64 a0)).setCell ⟨w.heap.size, 1, none⟩ (.int .i64 a1)).setCell ⟨w.heap.size, 2, none⟩ (.int .i64 a2)).setCell ⟨w.heap.size, 3, none⟩ (.int .i64 a3)).setCell ⟨w.heap.size, 4, none⟩ (.slice ao1 bv1.length c1))
      ((((((o61.set (by simp) _).set (by simp) _).set (by simp) _).set (by simp) _).set (by simp) _).base (by omega)) (((((B6.setCell (by simp) _).setCell (by simp) _).setCell (by simp) _).setCell (by simp) _).setCell (by simp) _)
    clear hk6 hk4 o41 o42 o51 o61 o31 o32 own1 own2 own1' B3 B4 B6 HP hSv hSx x0 x1 x2 x3 x4
    have x0 := V1.cell (i := 0) rfl
    have x1 := V1.cell (i := 1) rfl
    have x2 := V1.cell (i := 2) rfl
    have x3 := V1.cell (i := 3) rfl
    have x4 := V1.cell (i := 4) rfl
    have r0 := R6.cell (i := 0) rfl
    have r1 := R6.cell (i := 1) rfl
    have r2 := R6.cell (i := 2) rfl
    have r3 := R6.cell (i := 3) rfl
    have r4 := R6.cell (i := 4) rfl
    have f0 := R6.frozen 0
    have f1 := R6.frozen 1
    have f2 := R6.frozen 2
    have f3 := R6.frozen 3
    have f4 := R6.frozen 4
    go_wp2
    exact bodyPost_ret (v := .tuple #[.agg #[.int .i64 a0, .int .i64 a1, .int .i64 a2, .int .i64 a3, .slice ao1 bv1.length c1], .bool true]) (by simp [results, Try.results9, go_sem, r0, r1, r2, r3, r4]) rfl hfin
  · intro w1 hno1 hb1
    have hsm1 : ([] : List (BlockD × Value)).length ≤ 1000 ∧ ∀ x ∈ ([] : List (BlockD × Value)), x.1.ops.length ≤ 1000 := ⟨by simp, fun x hx => by cases hx⟩
    have hd1 : bdat [] = [] := rfl
    have hb1' : Below (w.heap.size + 1) (w.alloc (.cells #[.int .i64 0, .int .i64 0, .int .i64 0, .int .i64 0, .slice none 0 0] 24)) w1 := by simpa using hb1
    have hz1 := hb1'.size
    simp at hz1
    have R1 := R0.keep hb1
    have hb01 := Below.under hb1'
    have hzl : w.heap.size < w1.heap.size := by omega
    clear hb1
    have own1 : OwnBlocks w1 (w.heap.size + 1) (.slice none 0 0) [] := ownBlocks_nil _ _
    have V1 : Row (w1.alloc (.cells #[.int .i64 0, .int .i64 0, .int .i64 0, .int .i64 0, .slice none 0 0] 24)) w1.heap.size 24 [.int .i64 0, .int .i64 0, .int .i64 0, .int .i64 0, .slice none 0 0] := heap_alloc_new w1 _
    have hc := rDecode_any s (w1.alloc (.cells #[.int .i64 0, .int .i64 0, .int .i64 0, .int .i64 0, .slice none 0 0] 24)) hs
    go_wp2_with fail
    refine hc.mono ?_
    clear hc
    rintro e w2 ⟨hor, hb2⟩
    have V1 := V1.keep hb2
    have hb2' : Below (w1.heap.size + 1) (w1.alloc (.cells #[.int .i64 0, .int .i64 0, .int .i64 0, .int .i64 0, .slice none 0 0] 24)) w2 := by simpa using hb2
    clear hb2
    rcases hor with ⟨p2, v2, bv2, rfl, own2, hd2, g2, ht2⟩ | ⟨hno2, rfl⟩
    case inl => exact absurd ht2 (hno1 _ g2)
    have own2 : OwnBlocks w2 (w1.heap.size + 1) (.slice none 0 0) [] := ownBlocks_nil _ _
    have hd2 : bdat [] = [] := rfl
    clear hno1 hno2
    have hz2 := hb2'.size
    simp at hz2
    have hb12 := Below.under hb2'
    have R2 := R1.keep hb12
    have own1' := own1.below hb12 (Nat.le_refl _)
    have hzl2 : w1.heap.size < w2.heap.size := by omega
    have hzl3 : w.heap.size < w2.heap.size := by omega
    have hbA : Below w2.heap.size w2 (w2.alloc (.cells #[.int .i64 0, .int .i64 0, .int .i64 0, .int .i64 0, .slice none 0 0] 24)) := (Below.refl _ _).alloc (Nat.le_refl _) _
    have V2 : Row (w2.alloc (.cells #[.int .i64 0, .int .i64 0, .int .i64 0, .int .i64 0, .slice none 0 0] 24)) w2.heap.size 24 [.int .i64 0, .int .i64 0, .int .i64 0, .int .i64 0, .slice none 0 0] := heap_alloc_new w2 _
    have rd1 := (own1'.alloc (.cells #[.int .i64 0, .int .i64 0, .int .i64 0, .int .i64 0, .slice none 0 0] 24)).rd
    have rd2 := (own2.alloc (.cells #[.int .i64 0, .int .i64 0, .int .i64 0, .int .i64 0, .slice none 0 0] 24)).rd
    have x0 := V1.cell (i := 0) rfl
    have x1 := V1.cell (i := 1) rfl
    have x2 := V1.cell (i := 2) rfl
    have x3 := V1.cell (i := 3) rfl
    have x4 := V1.cell (i := 4) rfl
    go_wp2_with fail
    refine (sameProg_any 0 0 0 0 _ _ _ _ rd1 rd2).mono ?_
    rintro e w3 ⟨rfl, hb3⟩
    have V2 := V2.keep hb3
    have hb3' : Below (w2.heap.size + 1) (w2.alloc (.cells #[.int .i64 0, .int .i64 0, .int .i64 0, .int .i64 0, .slice none 0 0] 24)) w3 := by simpa using hb3
    clear hb3 rd1 rd2 hbA x0 x1 x2 x3 x4
    have hb23 := Below.under hb3'
    have hz3 := hb3'.size
    simp at hz3
    have V1 := V1.keep hb23
    have R3 := R2.keep hb23
    have o31 := own1'.below hb23 (Nat.le_refl _)
    have o32 := own2.below hb23 (Nat.le_refl _)
    have hS : ∀ g, bblk (.slice none 0 0) [] g → w.heap.size + 1 ≤ g ∧ g < w1.heap.size := fun g hg => bblk_lt own1 g hg
    have hSv : ∀ g, (Value.slice none 0 0).ownBlock = some g → bblk (.slice none 0 0) [] g := fun g hg => .inl hg
    have hSx : ∀ x ∈ ([] : List (BlockD × Value)), ∀ g, x.2.ownBlock = some g → bblk (.slice none 0 0) [] g := fun x hx g hg => .inr ⟨x, hx, hg⟩
    have hn1 : ¬ bblk (.slice none 0 0) [] w1.heap.size := fun h => by have := hS _ h; omega
    have hn2 : ¬ bblk (.slice none 0 0) [] w2.heap.size := fun h => by have := hS _ h; omega
    have hn0 : ¬ bblk (.slice none 0 0) [] w.heap.size := fun h => by have := hS _ h; omega
    have hbh := behindProg_any 0 0 0 0 (.slice none 0 0) [] w3 (w.heap.size + 1) o31 (by omega) hsm1.1 hsm1.2 (bblk (.slice none 0 0) []) hSv hSx
    have x0 := V1.cell (i := 0) rfl
    have x1 := V1.cell (i := 1) rfl
    have x2 := V1.cell (i := 2) rfl
    have x3 := V1.cell (i := 3) rfl
    have x4 := V1.cell (i := 4) rfl
    go_wp2_with fail
    refine hbh.mono ?_
    clear hbh
    rintro e w4 ⟨rfl, o41, hk4⟩
    have V1 := V1.kept hk4 hn1
    have V2 := V2.kept hk4 hn2
    have R4 := R3.kept hk4 hn0
    have o42 := o32.apartFrom hk4 (fun g hg => by have := hS g hg; omega)
    have hz4 := hk4.size
    have rd1 := o41.rd
    have rd2 := o42.rd
    clear x0 x1 x2 x3 x4
    have x0 := V1.cell (i := 0) rfl
    have x1 := V1.cell (i := 1) rfl
    have x2 := V1.cell (i := 2) rfl
    have x3 := V1.cell (i := 3) rfl
    have x4 := V1.cell (i := 4) rfl
    have y0 := V2.cell (i := 0) rfl
    have y1 := V2.cell (i := 1) rfl
    have y2 := V2.cell (i := 2) rfl
    have y3 := V2.cell (i := 3) rfl
    have y4 := V2.cell (i := 4) rfl
    go_wp2_with fail
    refine (sameProg_any 0 0 0 0 _ _ _ _ rd1 rd2).mono ?_
    rintro e w5 ⟨rfl, hb5⟩
    have V1 := V1.keep hb5
    have R5 := R4.keep hb5
    have o51 := o41.below hb5 (Nat.le_refl _)
    have hz5 := hb5.size
    have hoh := ownProg_any 0 0 0 0 (.slice none 0 0) [] w5 (w.heap.size + 1) (77 + 100 * k) o51 (by omega) hsm1.1 hsm1.2 (by omega) (bblk (.slice none 0 0) []) hSv hSx
    clear rd1 rd2 x0 x1 x2 x3 x4 y0 y1 y2 y3 y4
    have x0 := V1.cell (i := 0) rfl
    have x1 := V1.cell (i := 1) rfl
    have x2 := V1.cell (i := 2) rfl
    have x3 := V1.cell (i := 3) rfl
    have x4 := V1.cell (i := 4) rfl
    go_wp2_with fail
    refine hoh.mono ?_
    clear hoh
    rintro e w6 ⟨rfl, ⟨bv6, o61⟩, hk6⟩
    have V1 := V1.kept hk6 hn1
    have R6 := R5.kept hk6 hn0
    have B3 := hb01.trans (hb12.mono (by omega)) |>.trans (hb23.mono (by omega))
    have B4 := B3.trans ((hk4.toBelow (B := w.heap.size) (by omega) (fun g hg => by have := hS g hg; omega)))
    have B6 := (B4.trans (hb5.mono (by omega))).trans ((hk6.toBelow (B := w.heap.size) (by omega) (fun g hg => by have := hS g hg; omega)))
    have hfin := HP.out 0 0 0 0 (.slice none 0 0) bv6 (((((w6.setCell ⟨w.heap.size, 0, none⟩ (.int .i64 0)).setCell ⟨w.heap.size, 1, none⟩ (.int .i64 0)).setCell ⟨w.heap.size, 2, none⟩ (.int .i64 0)).setCell ⟨w.heap.size, 3, none⟩ (.int .i64 0)).setCell ⟨w.heap.size, 4, none⟩ (.slice none 0 0))
      ((((((o61.set (by simp) _).set (by simp) _).set (by simp) _).set (by simp) _).set (by simp) _).base (by omega)) (((((B6.setCell (by simp) _).setCell (by simp) _).setCell (by simp) _).setCell (by simp) _).setCell (by simp) _)
    clear hk6 hk4 o41 o42 o51 o61 o31 o32 own1 own2 own1' B3 B4 B6 HP hSv hSx x0 x1 x2 x3 x4
    have x0 := V1.cell (i := 0) rfl
    have x1 := V1.cell (i := 1) rfl
    have x2 := V1.cell (i := 2) rfl
    have x3 := V1.cell (i := 3) rfl
    have x4 := V1.cell (i := 4) rfl
    have r0 := R6.cell (i := 0) rfl
    have r1 := R6.cell (i := 1) rfl
    have r2 := R6.cell (i := 2) rfl
    have r3 := R6.cell (i := 3) rfl
    have r4 := R6.cell (i := 4) rfl
    have f0 := R6.frozen 0
    have f1 := R6.frozen 1
    have f2 := R6.frozen 2
    have f3 := R6.frozen 3
    have f4 := R6.frozen 4
    go_wp2
    exact bodyPost_ret (v := .tuple #[.agg #[.int .i64 0, .int .i64 0, .int .i64 0, .int .i64 0, .slice none 0 0], .bool true]) (by simp [results, Try.results9, go_sem, r0, r1, r2, r3, r4]) rfl hfin

end Go.Proofs.Ytblhmeidbjigaaa

/- A hint that came in, read. -/
set_option linter.unusedSimpArgs false
set_option linter.unusedVariables false
namespace Go.Proofs.Ytblhmeidbjigaaa
open Go.RowKit Go.ChangeShapes Go.WideShapes Go.ChangeAt Go.Deep

theorem Try.cellsInt : Try.prog.cellsOf 3 = 1 := by kernel_rfl
section
variable {H : Type} {enc : TypeId × Value → H} {w : World} {spare : Nat → Bool} {held : Bool}

theorem cells_get {base n : Nat} {a : Addr} {cs : List Value} (h : w.cells? base a n = some cs) : cs.length = n ∧ ∀ i (hi : i < cs.length), w.cell? (a.add i) = some cs[i] := by
  obtain ⟨_, hl, hc⟩ := World.cells?_some h
  refine ⟨hl, fun i hi => ?_⟩
  have := hc i (by omega)
  rw [List.getElem?_eq_getElem hi] at this
  exact this

/-- The address of a slice's first cell, where there is one. -/
theorem addr_lit {a : Addr} {v : Value} (h : w.cell? (a.add 0) = some v) : a = ⟨a.block, a.off, none⟩ := by
  have e : a.add 0 = a := by simp [Addr.add]
  rw [e] at h
  have hs := World.cell?_spot h
  cases a
  simp at hs
  rw [hs]

theorem weightsAll_mem {P : Program} {e : TypeId} {l : List (DataW H)} {d : DataW H} (hd : d ∈ l) {n : Nat} (hn : n ∈ d.weights P e) : n ∈ DataW.weightsAll P e l := by
  induction l with
  | nil => cases hd
  | cons x r ih =>
    rw [DataW.weightsAll, List.mem_append]
    rcases List.mem_cons.1 hd with rfl | hd
    · exact .inl hn
    · exact .inr (ih hd)

end

end Go.Proofs.Ytblhmeidbjigaaa

/- A program that came in, read. -/
set_option linter.unusedSimpArgs false
set_option linter.unusedVariables false
namespace Go.Proofs.Ytblhmeidbjigaaa
open Go.RowKit Go.ChangeShapes Go.WideShapes Go.ChangeAt Go.Deep

theorem Try.cellsOp : Try.prog.cellsOf 101 = 4 := by kernel_rfl
theorem Try.cellsEnd : Try.prog.cellsOf 88 = 4 := by kernel_rfl
theorem Try.cellsBlk : Try.prog.cellsOf 90 = 5 := by kernel_rfl
theorem Try.cellsProg : Try.prog.cellsOf 24 = 5 := by kernel_rfl
theorem Try.cellsOps : Try.prog.cellsOf 86 = 1 := by kernel_rfl
theorem Try.cellsBlks : Try.prog.cellsOf 22 = 1 := by kernel_rfl
theorem Try.bytesOp : Try.prog.bytesOf 101 = 32 := by kernel_rfl
theorem Try.bytesBlk : Try.prog.bytesOf 90 = 56 := by kernel_rfl

section
variable {H : Type} {enc : TypeId × Value → H} {w : World} {spare : Nat → Bool} {held : Bool}

theorem open_op {fuel : Nat} {cs : List Value} {x : DataW H × List MemPlace} (h : DataW.trod enc Try.prog w 0 spare held fuel 101 cs = some x) : ∃ o : OpD, cs = [.int .i64 o.kind, .int .i64 o.a, .int .i64 o.b, .int .i64 o.c] := by
  obtain ⟨y0, y1, y2, y3, n, _, hl, h0, h1, h2, h3⟩ := Go.Joins.trod_struct4 Try.underlying101 h
  rw [Try.cellsOp] at hl
  simp only [Try.cellsInt] at h0 h1 h2 h3
  match cs, hl with
  | [c0, c1, c2, c3], _ =>
    obtain ⟨a, e0, _, _⟩ := DataW.trod_int Try.underlying3 h0
    obtain ⟨b, e1, _, _⟩ := DataW.trod_int Try.underlying3 h1
    obtain ⟨c, e2, _, _⟩ := DataW.trod_int Try.underlying3 h2
    obtain ⟨d, e3, _, _⟩ := DataW.trod_int Try.underlying3 h3
    simp at e0 e1 e2 e3
    exact ⟨⟨a, b, c, d⟩, by rw [e0, e1, e2, e3]⟩

theorem open_end {fuel : Nat} {cs : List Value} {x : DataW H × List MemPlace} (h : DataW.trod enc Try.prog w 0 spare held fuel 88 cs = some x) : ∃ o : EndD, cs = [.int .i64 o.kind, .int .i64 o.r, .int .i64 o.x, .int .i64 o.y] := by
  obtain ⟨y0, y1, y2, y3, n, _, hl, h0, h1, h2, h3⟩ := Go.Joins.trod_struct4 Try.underlying88 h
  rw [Try.cellsEnd] at hl
  simp only [Try.cellsInt] at h0 h1 h2 h3
  match cs, hl with
  | [c0, c1, c2, c3], _ =>
    obtain ⟨a, e0, _, _⟩ := DataW.trod_int Try.underlying3 h0
    obtain ⟨b, e1, _, _⟩ := DataW.trod_int Try.underlying3 h1
    obtain ⟨c, e2, _, _⟩ := DataW.trod_int Try.underlying3 h2
    obtain ⟨d, e3, _, _⟩ := DataW.trod_int Try.underlying3 h3
    simp at e0 e1 e2 e3
    exact ⟨⟨a, b, c, d⟩, by rw [e0, e1, e2, e3]⟩

theorem open_ops {fuel : Nat} {v : Value} {x : DataW H × List MemPlace} (h : DataW.trod enc Try.prog w 0 spare held fuel 86 [v] = some x) (hs : ∀ n ∈ x.1.weights Try.prog 86, n ≤ reachBytes) :
    ∃ ps, RdOps w v ps ∧ ps.length ≤ 4398046511104 := by
  rcases open_slice Try.underlying86 h with ⟨e, _⟩ | ⟨a, len, cap, m, n, D, Pl, e, _, hlc, hcm, hm, hx, hel⟩
  · simp at e
    subst e
    exact ⟨[], ⟨none, 0, rfl, by simp, fun i hi => by simp at hi⟩, by simp⟩
  · simp at e
    subst e
    have hlm : len ≤ m := by rw [hm]; split <;> omega
    have key : ∀ i, i < len → ∃ p : OpD, w.cell? (a.add (i * 4)) = some (.int .i64 p.kind) ∧ w.cell? (a.add (i * 4 + 1)) = some (.int .i64 p.a) ∧ w.cell? (a.add (i * 4 + 2)) = some (.int .i64 p.b) ∧ w.cell? (a.add (i * 4 + 3)) = some (.int .i64 p.c) := by
      intro i hi
      obtain ⟨cs', hc, ht⟩ := hel i (by omega)
      rw [Try.cellsOp] at hc
      obtain ⟨o, rfl⟩ := open_op ht
      have := (cells_get hc).2
      refine ⟨o, ?_, ?_, ?_, ?_⟩
      · have := this 0 (by simp); simpa [add_add] using this
      · have := this 1 (by simp); simpa [add_add] using this
      · have := this 2 (by simp); simpa [add_add] using this
      · have := this 3 (by simp); simpa [add_add] using this
    obtain ⟨f, hf⟩ := @choose_lt OpD ⟨oz⟩ len _ key
    have hw : len * 32 ≤ reachBytes := by
      have := hs ((len + (m - len)) * 32) (by rw [hx]; simp [DataW.weights, Try.underlying86, Try.bytesOp])
      omega
    have hlen : len ≤ 4398046511104 := by unfold reachBytes at hw; omega
    refine ⟨(List.range len).map f, ⟨some a, cap, by simp, by simp; omega, fun i hi => ?_⟩, by simpa using hlen⟩
    have hi' : i < len := by simpa using hi
    obtain ⟨c1, c2, c3, c4⟩ := hf i hi'
    have ha := addr_lit (by simpa using (hf 0 (by omega)).1)
    rw [ha, Addr.add_lit] at c1 c2 c3 c4
    refine ⟨a.block, a.off, by rw [← ha], ?_, ?_, ?_, ?_⟩
    · rw [c1]; simp [okind, hi']
    · rw [Nat.add_assoc, c2]; simp [oa, hi']
    · rw [Nat.add_assoc, c3]; simp [ob, hi']
    · rw [Nat.add_assoc, c4]; simp [oc, hi']

theorem open_blk {fuel : Nat} {cs : List Value} {x : DataW H × List MemPlace} (h : DataW.trod enc Try.prog w 0 spare held fuel 90 cs = some x) (hs : ∀ n ∈ x.1.weights Try.prog 90, n ≤ reachBytes) :
    ∃ (o : EndD) (sv : Value) (ps : List OpD), cs = [sv, .int .i64 o.kind, .int .i64 o.r, .int .i64 o.x, .int .i64 o.y] ∧ RdOps w sv ps ∧ ps.length ≤ 4398046511104 := by
  obtain ⟨y0, y1, n, hx, hl, h0, h1⟩ := trod_struct2 Try.underlying90 h
  rw [Try.cellsBlk] at hl
  simp only [Try.cellsEnd, Try.cellsOps] at h0 h1
  match cs, hl with
  | [c0, c1, c2, c3, c4], _ =>
    obtain ⟨o, e⟩ := open_end h1
    simp at e
    obtain ⟨ps, hp, hn⟩ := open_ops (v := c0) (x := y0) (by simpa using h0) (fun n hn => hs n (by rw [hx]; simp [DataW.weights, DataW.weightsEach, Try.underlying90]; exact .inl hn))
    exact ⟨o, c0, ps, by rw [e.1, e.2.1, e.2.2.1, e.2.2.2], hp, hn⟩

theorem open_blks {fuel : Nat} {v : Value} {x : DataW H × List MemPlace} (h : DataW.trod enc Try.prog w 0 spare held fuel 22 [v] = some x) (hs : ∀ n ∈ x.1.weights Try.prog 22, n ≤ reachBytes) :
    ∃ g, RdBlocks w v g ∧ g.length ≤ 2513169434916 ∧ ∀ k, k < g.length → (bops g k).length ≤ 4398046511104 := by
  rcases open_slice Try.underlying22 h with ⟨e, _⟩ | ⟨a, len, cap, m, n, D, Pl, e, _, hlc, hcm, hm, hx, hel⟩
  · simp at e
    subst e
    exact ⟨[], ⟨none, 0, rfl, by simp, fun i hi => by simp at hi⟩, by simp, fun i hi => by simp at hi⟩
  · simp at e
    subst e
    have hlm : len ≤ m := by rw [hm]; split <;> omega
    have key : ∀ i, i < len → ∃ p : BlockD, (∃ sv, w.cell? (a.add (i * 5)) = some sv ∧ RdOps w sv p.ops) ∧ w.cell? (a.add (i * 5 + 1)) = some (.int .i64 p.fin.kind) ∧ w.cell? (a.add (i * 5 + 2)) = some (.int .i64 p.fin.r) ∧ w.cell? (a.add (i * 5 + 3)) = some (.int .i64 p.fin.x) ∧ w.cell? (a.add (i * 5 + 4)) = some (.int .i64 p.fin.y) ∧ p.ops.length ≤ 4398046511104 := by
      intro i hi
      obtain ⟨cs', hc, ht⟩ := hel i (by omega)
      rw [Try.cellsBlk] at hc
      obtain ⟨o, sv, ps, rfl, hp, hn⟩ := open_blk ht (fun n hn => hs n (by
        rw [hx]
        simp only [DataW.weights, Try.underlying22]
        refine List.mem_cons.2 (.inr (List.mem_append.2 (.inl ?_)))
        exact weightsAll_mem (List.mem_map.2 ⟨i, by simpa using hi, rfl⟩) hn))
      have := (cells_get hc).2
      refine ⟨⟨ps, o⟩, ⟨sv, ?_, hp⟩, ?_, ?_, ?_, ?_, hn⟩
      · have := this 0 (by simp); simpa [add_add] using this
      · have := this 1 (by simp); simpa [add_add] using this
      · have := this 2 (by simp); simpa [add_add] using this
      · have := this 3 (by simp); simpa [add_add] using this
      · have := this 4 (by simp); simpa [add_add] using this
    obtain ⟨f, hf⟩ := @choose_lt BlockD ⟨bz⟩ len _ key
    have hw : len * 56 ≤ reachBytes := by
      have := hs ((len + (m - len)) * 56) (by rw [hx]; simp [DataW.weights, Try.underlying22, Try.bytesBlk])
      omega
    have hlen : len ≤ 2513169434916 := by unfold reachBytes at hw; omega
    refine ⟨(List.range len).map f, ⟨some a, cap, by simp, by simp; omega, fun i hi => ?_⟩, by simpa using hlen, fun k hk => ?_⟩
    · have hi' : i < len := by simpa using hi
      obtain ⟨⟨sv, c0, c6⟩, c1, c2, c3, c4, _⟩ := hf i hi'
      obtain ⟨⟨sv0, k0, _⟩, _⟩ := hf 0 (by omega)
      have ha := addr_lit (by simpa using k0)
      rw [ha, Addr.add_lit] at c0 c1 c2 c3 c4
      have eb : bops ((List.range len).map f) i = (f i).ops := by simp [bops, hi']
      have ef : bfin ((List.range len).map f) i = (f i).fin := by simp [bfin, hi']
      refine ⟨a.block, a.off, sv, by rw [← ha], c0, ?_, ?_, ?_, ?_, ?_⟩
      · rw [Nat.add_assoc, c1]; unfold bek; rw [ef]
      · rw [Nat.add_assoc, c2]; unfold ber; rw [ef]
      · rw [Nat.add_assoc, c3]; unfold bex; rw [ef]
      · rw [Nat.add_assoc, c4]; unfold bey; rw [ef]
      · rw [eb]; exact c6
    · have hk' : k < len := by simpa using hk
      have : bops ((List.range len).map f) k = (f k).ops := by simp [bops, hk']
      rw [this]; exact (hf k hk').2.2.2.2.2

theorem five_cells (cs : Array Value) (h : cs.size = 5) : ∃ c0 c1 c2 c3 c4, cs = #[c0, c1, c2, c3, c4] := by
  rcases cs with ⟨l⟩
  match l, h with
  | [c0, c1, c2, c3, c4], _ => exact ⟨c0, c1, c2, c3, c4, rfl⟩

theorem trod_struct5 {P : Program} {t : TypeId} {f0 f1 f2 f3 f4 : Field} {fuel : Nat} {cs : List Value} {x : DataW H × List MemPlace} (ht : P.underlying t = some (.struct #[f0, f1, f2, f3, f4])) (h : DataW.trod enc P w 0 spare held fuel t cs = some x) :
    ∃ y0 y1 y2 y3 y4 n q, x = (.agg [y0.1, y1.1, y2.1, y3.1, y4.1], q) ∧ cs.length = P.cellsOf t ∧ DataW.trod enc P w 0 spare held n f0.type ((cs.drop f0.offset).take (P.cellsOf f0.type)) = some y0 ∧
      DataW.trod enc P w 0 spare held n f1.type ((cs.drop f1.offset).take (P.cellsOf f1.type)) = some y1 ∧ DataW.trod enc P w 0 spare held n f2.type ((cs.drop f2.offset).take (P.cellsOf f2.type)) = some y2 ∧
      DataW.trod enc P w 0 spare held n f3.type ((cs.drop f3.offset).take (P.cellsOf f3.type)) = some y3 ∧ DataW.trod enc P w 0 spare held n f4.type ((cs.drop f4.offset).take (P.cellsOf f4.type)) = some y4 := by
  obtain ⟨xs, n, _, rfl, hl, hlen, hf⟩ := DataW.trod_struct ht h
  match xs, hlen with
  | [y0, y1, y2, y3, y4], _ => exact ⟨y0, y1, y2, y3, y4, n, _, by simp; rfl, hl, by simpa using hf 0 f0 rfl, by simpa using hf 1 f1 rfl, by simpa using hf 2 f2 rfl, by simpa using hf 3 f3 rfl, by simpa using hf 4 f4 rfl⟩

set_option maxRecDepth 100000 in
theorem open_prog_arg {v : Value} {d : DataW H} {p : List MemPlace} {r : Reach} {b0 : Nat} (hv : Value.okWide Try.prog w r b0 24 v) (h : DataW.Trod enc Try.prog w 0 spare held 24 v d p) (hs : ∀ n ∈ d.weights Try.prog 24, n ≤ reachBytes) :
    ∃ a0 a1 a2 a3 u g, v = .agg #[.int .i64 a0, .int .i64 a1, .int .i64 a2, .int .i64 a3, u] ∧ RdBlocks w u g ∧ g.length ≤ 2513169434916 ∧ ∀ k, k < g.length → (bops g k).length ≤ 4398046511104 := by
  obtain ⟨cs, rfl, hcs⟩ := okWide_struct Try.underlying24 hv
  rw [Try.cellsProg] at hcs
  obtain ⟨c0, c1, c2, c3, c4, rfl⟩ := five_cells cs hcs
  obtain ⟨fuel, hf⟩ := h
  obtain ⟨y0, y1, y2, y3, y4, n, q, hx, _, h0, h1, h2, h3, h4⟩ := trod_struct5 Try.underlying24 hf
  simp only [Try.cellsInt, Try.cellsBlks] at h0 h1 h2 h3 h4
  simp only [Prod.mk.injEq] at hx
  obtain ⟨a0, e0, _, _⟩ := DataW.trod_int Try.underlying3 h0
  obtain ⟨a1, e1, _, _⟩ := DataW.trod_int Try.underlying3 h1
  obtain ⟨a2, e2, _, _⟩ := DataW.trod_int Try.underlying3 h2
  obtain ⟨a3, e3, _, _⟩ := DataW.trod_int Try.underlying3 h3
  simp [Value.cells] at e0 e1 e2 e3
  obtain ⟨g, k1, k2, k3⟩ := open_blks (v := c4) (x := y4) (by simpa [Value.cells] using h4) (fun n hn => hs n (by
    rw [hx.1]
    simp only [DataW.weights, Try.underlying24, DataW.weightsEach, List.map_cons, List.map_nil, List.mem_append]
    exact .inr (.inr (.inr (.inr (.inl hn))))))
  exact ⟨a0, a1, a2, a3, c4, g, by rw [e0, e1, e2, e3], k1, k2, k3⟩

end

end Go.Proofs.Ytblhmeidbjigaaa
