/- unhinted, with how long the lists are that come out. -/
import Derived.Test.YtblhmeidbjigaabGreatDoorRows
import Derived.WalkKit
import Derived.WalkSpells
import Derived.WalkLawsBesides
import Derived.Laws.BytesArg
import Derived.Deep.QuietTactic
import Derived.BigQuiet
import Derived.Deep.RegionHeld3
import Derived.Test.YtblhmeidbjigaabGreatDoorTViewToLTabAll

set_option linter.unusedSimpArgs false
set_option linter.unusedVariables false
namespace Go.Proofs.YtblhmeidbjigaabGreatDoor
open Go.RowKit

set_option maxRecDepth 100000 in
set_option maxHeartbeats 4000000 in
theorem ownHint2_any (v : Value) (hv : List (PingD × Value)) (w : World) (base : Nat) (mark : Int) (hown : OwnHint w base v hv) (hbs : base ≤ w.heap.size) (hl : hv.length ≤ 1000) (hl2 : ∀ x ∈ hv, x.1.pairs.length ≤ 1000) (hm : 0 ≤ mark ∧ mark ≤ 4611686018427387904)
    (S : Nat → Prop) (hSv : ∀ g, v.ownBlock = some g → S g) (hSx : ∀ x ∈ hv, ∀ g, x.2.ownBlock = some g → S g) :
    Calls Tryz.prog 80 #[.agg #[v], .int .i64 mark] w fun e w' => e = .returned (.bool true) ∧ (∃ hv', OwnHint w' base v hv' ∧ hv'.length ≤ 1000 ∧ ∀ x ∈ hv', x.1.pairs.length ≤ 1000) ∧ Keep S w w' := by
  obtain ⟨ao, cap, rfl⟩ := owns_slice hown.row
  go_enter Tryz.func80, Tryz.ntmps80
  go_wp2
  go_loopw [5] (fun i wr => ∃ (k : Nat) (hu : List (PingD × Value)), k ≤ hv.length ∧ i = .int .i64 k ∧ Hid (hu.length = hv.length) ∧ Hid (∀ x ∈ hu, x.1.pairs.length ≤ 1000) ∧ Hid (∀ x ∈ hu, ∀ g, x.2.ownBlock = some g → g < w.heap.size ∧ S g) ∧ Mkd mark k hu ∧ OwnHint wr base (.slice ao hv.length cap) hu ∧ wr.cell? ⟨w.heap.size, 0, none⟩ = some (.slice ao hv.length cap) ∧ Keep S w wr ∧ w.heap.size + 1 ≤ wr.heap.size)
    (fun i _ => hv.length - (intOf i).toNat)
  case atStart => exact ⟨0, hv, Nat.zero_le _, rfl, rfl, hl2, fun x hx g hg => ⟨((hown.each x hx).lt g hg).2, hSx x hx g hg⟩, fun i hi h0 => by omega, hown.alloc _, by simp, (Keep.refl _ _).alloc _, by simp⟩
  case round =>
    obtain ⟨k, hu, hk, rfl, hlen, hlp, hlo, hmk, ho, hx0, hbel, hz⟩ := hrel
    have hzl : w.heap.size < wr.heap.size := by omega
    by_cases hlt : k < hv.length
    case neg =>
      obtain ⟨wo, hwo⟩ : ∃ wo, wo = wr := ⟨_, rfl⟩
      subst hwo
      have hmk0 : Mkd mark hu.length hu := fun i hi _ => hmk i hi (by have := hlen.out; omega)
      go_wp2
      clear hmk hown
      go_loop [7] (fun i => ∃ (j : Nat), j ≤ hv.length ∧ i = .int .i64 j) (fun i => hv.length - (intOf i).toNat)
      case atStart => exact ⟨0, Nat.zero_le _, rfl⟩
      case round =>
        obtain ⟨j, hj, rfl⟩ := hrel
        by_cases hjl : j < hv.length
        case neg =>
          go_wp2
          go_ret
          exact ⟨rfl, ⟨_, ho, (by rw [hlen.out]; exact hl), (by first | exact hlp.out | exact fun a b h => hlp.out (a, b) h)⟩, hbel⟩
        have hju : j < hu.length := by rw [hlen.out]; exact hjl
        obtain ⟨b, rfl, hbb, c1, c2, cf⟩ := ownHint_at ho hju
        have hrow := ho.each _ (List.getElem_mem hju)
        have hpl := hlp.out _ (List.getElem_mem hju)
        have hmj := hmk0 j hju hju
        rw [hmj.1] at c1
        have hmp : Hid (∀ i, i < hu[j].1.pairs.length → preg hu[j].1.pairs i = mark + j) := hmj.2
        obtain ⟨so, sc, hsv⟩ := owns_slice hrow
        rw [hsv] at c2 hrow
        clear hmj hsv
        generalize hu[j].1.pairs = ps at *
        have hnq : (mark + (j : Int) != mark + (j : Int)) = false := by simp
        go_wp2
        go_loop [8] (fun i => ∃ (m : Nat), m ≤ ps.length ∧ i = .int .i64 m) (fun i => ps.length - (intOf i).toNat)
        case atStart => exact ⟨0, Nat.zero_le _, rfl⟩
        case round =>
          obtain ⟨m, hmn, rfl⟩ := hrel
          by_cases hml : m < ps.length
          · obtain ⟨g, rfl, hgb, d1, d2, df⟩ := owns_pairs_at hrow hml
            rw [hmp.out m hml] at d1
            go_wp2
            go_round
            case rel => exact ⟨m + 1, by omega, by go_num⟩
            case measure => simp [intOf]; omega
          · go_wp2
            go_round
            case rel => exact ⟨j + 1, by omega, by go_num⟩
            case measure => simp [intOf]; omega
    obtain ⟨wo, hwo⟩ : ∃ wo, wo = wr := ⟨_, rfl⟩
    subst hwo
    have hku : k < hu.length := by rw [hlen.out]; exact hlt
    obtain ⟨b, rfl, hbb, c1, c2, cf⟩ := ownHint_at ho hku
    have hbw : b < w.heap.size := ((hown.row).lt b rfl).2
    have cf0 := cf (k * 2)
    have ho1 := ho.setSrc hku (mark + k)
    have hmk1 := hmk.set (⟨mark + k, hu[k].1.pairs⟩, hu[k].2)
    have hlen1 : Hid ((hu.set k (⟨mark + k, hu[k].1.pairs⟩, hu[k].2)).length = hv.length) := by show List.length _ = _; rw [List.length_set]; exact hlen.out
    have hlp1 : Hid (∀ x ∈ hu.set k (⟨mark + k, hu[k].1.pairs⟩, hu[k].2), x.1.pairs.length ≤ 1000) := by
      intro x hx
      rcases List.mem_or_eq_of_mem_set hx with hx | rfl
      · exact hlp.out x hx
      · exact hlp.out hu[k] (List.getElem_mem hku)
    have hlo1 : Hid (∀ x ∈ hu.set k (⟨mark + k, hu[k].1.pairs⟩, hu[k].2), ∀ g, x.2.ownBlock = some g → g < w.heap.size ∧ S g) := by
      intro x hx
      rcases List.mem_or_eq_of_mem_set hx with hx | rfl
      · exact hlo.out x hx
      · exact hlo.out hu[k] (List.getElem_mem hku)
    have hsk : Hid (hsrc (hdat (hu.set k (⟨mark + k, hu[k].1.pairs⟩, hu[k].2))) k = mark + k) := by
      show hsrc _ _ = _
      rw [(hdat_get _ (by rw [List.length_set]; exact hku)).1, List.getElem_set_self]
    have hx1 : (wo.setCell ⟨b, k * 2, none⟩ (.int .i64 (mark + k))).cell? ⟨w.heap.size, 0, none⟩ = some (.slice (some ⟨b, 0, none⟩) hv.length cap) := cell_unset (by simp) hx0
    have hb1 := hbel.setCell (p := ⟨b, k * 2, none⟩) (.inl (hSv b rfl)) (.int .i64 (mark + k))
    have hz1 : w.heap.size + 1 ≤ (wo.setCell ⟨b, k * 2, none⟩ (.int .i64 (mark + k))).heap.size := by simpa using hz
    go_wp2
    generalize hu.set k (⟨mark + k, hu[k].1.pairs⟩, hu[k].2) = h1 at *
    generalize wo.setCell ⟨b, k * 2, none⟩ (.int .i64 (mark + k)) = w1 at *
    clear hmk hlen hlp hlo ho hx0 hbel hz hzl hku c1 c2 cf cf0 hu wo
    go_loopw [6] (fun i w2 => ∃ (j : Nat) (hu : List (PingD × Value)), j ≤ 1000 ∧ i = .int .i64 j ∧ Hid (hu.length = hv.length) ∧ Hid (∀ x ∈ hu, x.1.pairs.length ≤ 1000) ∧ Hid (∀ x ∈ hu, ∀ g, x.2.ownBlock = some g → g < w.heap.size ∧ S g) ∧ Mkd mark k hu ∧ Hid (hsrc (hdat hu) k = mark + k) ∧ Hid (j ≤ (hpairs (hdat hu) k).length ∧ ∀ i, i < j → preg (hpairs (hdat hu) k) i = mark + k) ∧
        OwnHint w2 base (.slice (some ⟨b, 0, none⟩) hv.length cap) hu ∧ w2.cell? ⟨w.heap.size, 0, none⟩ = some (.slice (some ⟨b, 0, none⟩) hv.length cap) ∧ Keep S w w2 ∧ w.heap.size + 1 ≤ w2.heap.size)
      (fun i _ => 1000 - (intOf i).toNat)
    case atStart => exact ⟨0, h1, by omega, rfl, hlen1, hlp1, hlo1, hmk1, hsk, ⟨Nat.zero_le _, fun i hi => by omega⟩, ho1, hx1, hb1, hz1⟩
    case round =>
      clear hlen1 hlp1 hlo1 hmk1 hsk ho1 hx1 hb1 hz1
      obtain ⟨j, hu, hj, rfl, hlen, hlp, hlo, hmk, hsk, hpj, ho, hx0, hbel, hz⟩ := hrel
      have hku : k < hu.length := by rw [hlen.out]; exact hlt
      have hzl : w.heap.size < wr.heap.size := by omega
      obtain ⟨b', e0, _, c1, c2, cf⟩ := ownHint_at ho hku
      simp only [Option.some.injEq, Addr.mk.injEq, and_true] at e0
      obtain rfl := e0
      have hrow := ho.each _ (List.getElem_mem hku)
      have hpl := hlp.out _ (List.getElem_mem hku)
      have hlok := hlo.out _ (List.getElem_mem hku)
      have HE : Hid (hsrc (hdat hu) k = hu[k].1.src ∧ hpairs (hdat hu) k = hu[k].1.pairs) := hdat_get hu hku
      obtain ⟨so, sc, hsv⟩ := owns_slice hrow
      have hpj' : Hid (j ≤ hu[k].1.pairs.length ∧ ∀ i, i < j → preg hu[k].1.pairs i = mark + k) := by have := hpj.out; rw [HE.out.2] at this; exact this
      have hsk' : Hid (hu[k].1.src = mark + k) := by have := hsk.out; rw [HE.out.1] at this; exact this
      have HSV : Hid (hu[k].2 = .slice so hu[k].1.pairs.length sc) := hsv
      rw [hsv] at c2
      obtain ⟨n, hn⟩ : ∃ n, n = hu[k].1.pairs.length := ⟨_, rfl⟩
      rw [← hn] at c2
      have HN : Hid (n = hu[k].1.pairs.length) := hn
      have hn1000 : n ≤ 1000 := by rw [hn]; exact hpl
      by_cases hjn : j < n
      case neg =>
        have hmk' : Mkd mark (k + 1) hu := by
          intro i hi hik
          by_cases e : i = k
          · subst e
            exact ⟨hsk'.out, fun i' hi' => hpj'.out.2 i' (by omega)⟩
          · exact hmk i hi (by omega)
        clear hsv hn hpj hsk hpj' hsk' hmk HE HSV HN hrow
        go_wp2
        go_roundw
        case rel => exact ⟨k + 1, hu, by omega, by go_num, hlen, hlp, hlo, hmk', ho, hx0, hbel, hz⟩
        case measure => simp [intOf]; omega
      have hrow2 : wr.ownsRow base 38 2 (.slice so n sc) hu[k].1.pairs.length (pairCells hu[k].1.pairs) := by rw [hsv, ← hn] at hrow; rw [← hn]; exact hrow
      obtain ⟨g, rfl, hgb, d1, d2, df⟩ := owns_pairs_at hrow2 (j := j) (by omega)
      have df0 := df (j * 2)
      have df1 := df (j * 2 + 1)
      have hgo : hu[k].2.ownBlock = some g := by rw [hsv]; rfl
      have hgw : g < w.heap.size := (hlok g hgo).1
      have hgS := (hlok g hgo).2
      have ho' := ho.setPair hku hgo (j := j) (by omega) (mark + k) 0
      have hmk' := hmk.set (⟨hu[k].1.src, hu[k].1.pairs.set j ⟨mark + k, 0⟩⟩, hu[k].2)
      have hlen' : Hid ((hu.set k (⟨hu[k].1.src, hu[k].1.pairs.set j ⟨mark + k, 0⟩⟩, hu[k].2)).length = hv.length) := by show List.length _ = _; rw [List.length_set]; exact hlen.out
      have hlp' : Hid (∀ x ∈ hu.set k (⟨hu[k].1.src, hu[k].1.pairs.set j ⟨mark + k, 0⟩⟩, hu[k].2), x.1.pairs.length ≤ 1000) := by
        intro x hx
        rcases List.mem_or_eq_of_mem_set hx with hx | rfl
        · exact hlp.out x hx
        · show List.length (List.set _ _ _) ≤ 1000
          rw [List.length_set]; exact hpl
      have hlo' : Hid (∀ x ∈ hu.set k (⟨hu[k].1.src, hu[k].1.pairs.set j ⟨mark + k, 0⟩⟩, hu[k].2), ∀ g, x.2.ownBlock = some g → g < w.heap.size ∧ S g) := by
        intro x hx
        rcases List.mem_or_eq_of_mem_set hx with hx | rfl
        · exact hlo.out x hx
        · exact hlok
      have hq := hdat_get (hu.set k (⟨hu[k].1.src, hu[k].1.pairs.set j ⟨mark + k, 0⟩⟩, hu[k].2)) (i := k) (by rw [List.length_set]; exact hku)
      rw [List.getElem_set_self] at hq
      have hsk2 : Hid (hsrc (hdat (hu.set k (⟨hu[k].1.src, hu[k].1.pairs.set j ⟨mark + k, 0⟩⟩, hu[k].2))) k = mark + k) := by show hsrc _ _ = _; rw [hq.1]; exact hsk'.out
      have hpj2 : Hid (j + 1 ≤ (hpairs (hdat (hu.set k (⟨hu[k].1.src, hu[k].1.pairs.set j ⟨mark + k, 0⟩⟩, hu[k].2))) k).length ∧ ∀ i, i < j + 1 → preg (hpairs (hdat (hu.set k (⟨hu[k].1.src, hu[k].1.pairs.set j ⟨mark + k, 0⟩⟩, hu[k].2))) k) i = mark + k) := by
        show _ ∧ _
        rw [hq.2]
        refine ⟨by simp only [List.length_set]; omega, fun i hi => ?_⟩
        by_cases e : i = j
        · subst e
          simp [preg, List.getD, show i < hu[k].1.pairs.length by omega]
        · have := hpj'.out.2 i (by omega)
          simp only [preg, List.getD, List.getElem?_set_ne (fun h => e h.symm)] at this ⊢
          exact this
      have hx1 : ∀ u u', ((wr.setCell ⟨g, j * 2, none⟩ u).setCell ⟨g, j * 2 + 1, none⟩ u').cell? ⟨w.heap.size, 0, none⟩ = some (.slice (some ⟨b, 0, none⟩) hv.length cap) := fun u u' => cell_unset (by simp) (cell_unset (by simp) hx0)
      have hb1 := (hbel.setCell (p := ⟨g, j * 2, none⟩) (.inl hgS) (.int .i64 (mark + k))).setCell (p := ⟨g, j * 2 + 1, none⟩) (.inl hgS) (.int .i64 0)
      generalize hu.set k (⟨hu[k].1.src, hu[k].1.pairs.set j ⟨mark + k, 0⟩⟩, hu[k].2) = h2 at *
      clear hsv hn hpj hsk hpj' hsk' hmk HE HSV HN hrow hrow2 hq ho hlen hlp hlo
      go_wp2
      go_roundw
      case rel => exact ⟨j + 1, h2, by omega, by go_num, hlen', hlp', hlo', hmk', hsk2, hpj2, ho', hx1 _ _, hb1, by simpa using hz⟩
      case measure => simp [intOf]; omega

set_option maxRecDepth 100000 in
set_option maxHeartbeats 4000000 in
theorem unhinted2_any (s : ByteArray) (k : Int) (w : World) (hs : s.size ≤ maxLen) (hk : 0 ≤ k ∧ k ≤ 4611686018427387) :
    Calls Tryz.prog 42 #[.string s, .int .i64 k] w fun e w' => (∃ v hv, e = .returned (.tuple #[.agg #[v], .bool true]) ∧ OwnHint w' w.heap.size v hv ∧ hv.length ≤ 1000 ∧ ∀ x ∈ hv, x.1.pairs.length ≤ 1000) ∧ Below w.heap.size w w' := by
  obtain ⟨Post, hPost⟩ : ∃ Post : Ending → World → Prop, Post = fun e w' => (∃ v hv, e = .returned (.tuple #[.agg #[v], .bool true]) ∧ OwnHint w' w.heap.size v hv ∧ hv.length ≤ 1000 ∧ ∀ x ∈ hv, x.1.pairs.length ≤ 1000) ∧ Below w.heap.size w w' := ⟨_, rfl⟩
  rw [← hPost]
  have HP : Hid (∀ v hv w', OwnHint w' w.heap.size v hv → (hv.length ≤ 1000 ∧ ∀ x ∈ hv, x.1.pairs.length ≤ 1000) → Below w.heap.size w w' → Post (.returned (.tuple #[.agg #[v], .bool true])) w') := by
    intro v hv w' h1 hl h2
    rw [hPost]
    exact ⟨⟨v, hv, rfl, h1, hl⟩, h2⟩
  clear hPost
  have hc := tDecodeHint_any s (w.alloc (.cells #[.slice none 0 0] 30)) hs
  go_enter Tryz.func42, Tryz.ntmps42
  go_wp2_with fail
  refine hc.mono ?_
  clear hc
  rintro e w1 ⟨hor, hb1⟩
  have hb1' : Below (w.heap.size + 1) (w.alloc (.cells #[.slice none 0 0] 30)) w1 := by simpa using hb1
  have hz1 := hb1'.size
  simp at hz1
  have r0 : w1.cell? ⟨w.heap.size, 0, none⟩ = some (.slice none 0 0) := (hb1'.cell (by simp)).trans (by simp)
  have rf : w1.frozen? ⟨w.heap.size, 0, none⟩ = false := (hb1'.frozen (by simp)).trans (by simp)
  have hb01 := Below.under hb1'
  have hzl : w.heap.size < w1.heap.size := by omega
  clear hb1
  rcases hor with ⟨v1, hv1, rfl, own1, g1, ht1⟩ | ⟨hno1, rfl⟩
  · obtain ⟨a1, c1, rfl⟩ := owns_slice own1.row
    have own1 : OwnHint w1 (w.heap.size + 1) (.slice a1 hv1.length c1) hv1 := by simpa using own1
    have good1 := good_small g1
    have hc := rDecodeHint_any s (w1.alloc (.cells #[.slice a1 hv1.length c1] 30)) hs
    go_wp2_with fail
    refine hc.mono ?_
    clear hc
    rintro e w2 ⟨hor, hb2⟩
    have hb2' : Below (w1.heap.size + 1) (w1.alloc (.cells #[.slice a1 hv1.length c1] 30)) w2 := by simpa using hb2
    clear hb2
    rcases hor with ⟨v2, hv2, rfl, own2, g2, ht2⟩ | ⟨hno2, rfl⟩
    case inr => exact absurd ht1 (hno2 _ g1)
    obtain ⟨a2, c2, rfl⟩ := owns_slice own2.row
    have own2 : OwnHint w2 (w1.heap.size + 1) (.slice a2 hv2.length c2) hv2 := by simpa using own2
    have hsame : hdat hv1 = hdat hv2 := hint_one g1 g2 (ht1.trans ht2.symm)
    clear ht1 ht2 g1 g2
    have hz2 := hb2'.size
    simp at hz2
    have x1 : w2.cell? ⟨w1.heap.size, 0, none⟩ = some (.slice a1 hv1.length c1) := (hb2'.cell (by simp)).trans (by simp)
    have hb12 := Below.under hb2'
    have own1' := own1.apartFrom' hb12
    have hsm1 := good1
    have rr0 := cell_keep hb12 r0
    have rrf := (hb12.frozen (p := ⟨w.heap.size, 0, none⟩) hzl).trans rf
    have hzl2 : w1.heap.size < w2.heap.size := by omega
    have hzl3 : w.heap.size < w2.heap.size := by omega
    have rd1 := (own1'.alloc (.cells #[(.slice a2 hv2.length c2)] 30)).rd
    have rd2 := (own2.alloc (.cells #[(.slice a2 hv2.length c2)] 30)).rd
    rw [← hsame] at rd2
    go_wp2_with fail
    refine (sameHint_any _ _ _ _ rd1 rd2).mono ?_
    rintro e w3 ⟨rfl, hb3⟩
    have hb3' : Below (w2.heap.size + 1) (w2.alloc (.cells #[(.slice a2 hv2.length c2)] 30)) w3 := by simpa using hb3
    clear hb3 rd1 rd2
    have hb23 := Below.under hb3'
    have hz3 := hb3'.size
    simp at hz3
    have y1 := cell_keep hb23 x1
    have y2 : w3.cell? ⟨w2.heap.size, 0, none⟩ = some (.slice a2 hv2.length c2) := (hb3'.cell (by simp)).trans (by simp)
    have y0 := cell_keep hb23 rr0
    have yf := (hb23.frozen (p := ⟨w.heap.size, 0, none⟩) hzl3).trans rrf
    have o31 := own1'.apartFrom' hb23
    have o32 := own2.apartFrom' hb23
    have hS : ∀ g, hblk (.slice a1 hv1.length c1) hv1 g → w.heap.size + 1 ≤ g ∧ g < w1.heap.size := fun g hg => by
      have := hblk_lt own1 g hg
      exact this
    have hSv : ∀ g, (Value.slice a1 hv1.length c1).ownBlock = some g → hblk (.slice a1 hv1.length c1) hv1 g := fun g hg => .inl hg
    have hSx : ∀ x ∈ hv1, ∀ g, x.2.ownBlock = some g → hblk (.slice a1 hv1.length c1) hv1 g := fun x hx g hg => .inr ⟨x, hx, hg⟩
    have hn1 : ¬ hblk (.slice a1 hv1.length c1) hv1 w1.heap.size := fun h => by have := hS _ h; omega
    have hn2 : ¬ hblk (.slice a1 hv1.length c1) hv1 w2.heap.size := fun h => by have := hS _ h; omega
    have hn0 : ¬ hblk (.slice a1 hv1.length c1) hv1 w.heap.size := fun h => by have := hS _ h; omega
    have hbh := behindHint_any (.slice a1 hv1.length c1) hv1 w3 (w.heap.size + 1) o31 (by omega) hsm1.1 hsm1.2 (hblk (.slice a1 hv1.length c1) hv1) hSv hSx
    go_wp2_with fail
    refine hbh.mono ?_
    clear hbh
    rintro e w4 ⟨rfl, o41, hk4⟩
    have u1 := hk4.cell hn1 y1
    have u2 := hk4.cell hn2 y2
    have u0 := hk4.cell hn0 y0
    have uf : w4.frozen? ⟨w.heap.size, 0, none⟩ = false := (World.frozen?_of_block (w := w3) (hk4.block w.heap.size (by omega) hn0)).trans yf
    have o42 := o32.apartFrom hk4 (fun g hg => by have := hS g hg; omega)
    have hz4 := hk4.size
    have rd1 := o41.rd
    have rd2 := o42.rd
    rw [← hsame] at rd2
    go_wp2_with fail
    refine (sameHint_any _ _ _ _ rd1 rd2).mono ?_
    rintro e w5 ⟨rfl, hb5⟩
    have v1 := cell_keep hb5 u1
    have v0 := cell_keep hb5 u0
    have vf := (hb5.frozen (p := ⟨w.heap.size, 0, none⟩) (by show w.heap.size < w4.heap.size; omega)).trans uf
    have o51 := o41.apartFrom' hb5
    have hz5 := hb5.size
    have hoh := ownHint2_any (.slice a1 hv1.length c1) hv1 w5 (w.heap.size + 1) (77 + 100 * k) o51 (by omega) hsm1.1 hsm1.2 (by omega) (hblk (.slice a1 hv1.length c1) hv1) hSv hSx
    clear rd1 rd2
    go_wp2_with fail
    refine hoh.mono ?_
    clear hoh
    rintro e w6 ⟨rfl, ⟨hv6, o61, l61⟩, hk6⟩
    have t1 := hk6.cell hn1 v1
    have t0 := hk6.cell hn0 v0
    have tf : w6.frozen? ⟨w.heap.size, 0, none⟩ = false := (World.frozen?_of_block (w := w5) (hk6.block w.heap.size (by omega) hn0)).trans vf
    have B3 := hb01.trans (hb12.mono (by omega)) |>.trans (hb23.mono (by omega))
    have B4 := B3.trans ((hk4.toBelow (B := w.heap.size) (by omega) (fun g hg => by have := hS g hg; omega)))
    have B6 := (B4.trans (hb5.mono (by omega))).trans ((hk6.toBelow (B := w.heap.size) (by omega) (fun g hg => by have := hS g hg; omega)))
    have hfin := HP.out (.slice a1 hv1.length c1) hv6 (w6.setCell ⟨w.heap.size, 0, none⟩ (.slice a1 hv1.length c1)) ((o61.set (by simp) _).base (by omega)) l61 (B6.setCell (by simp) _)
    clear hk6 hk4 o41 o42 o51 o61 o31 o32 own1 own2 own1' B3 B4 B6 HP hSv hSx
    go_wp2
    exact bodyPost_ret (v := .tuple #[.agg #[(.slice a1 hv1.length c1)], .bool true]) (by simp [results, Tryz.results42, go_sem, t0]) rfl hfin
  · have own1 : OwnHint w1 (w.heap.size + 1) (.slice none 0 0) [] := ownHint_nil _ _
    have good1 : ([] : List (PingD × Value)).length ≤ 1000 ∧ ∀ x ∈ ([] : List (PingD × Value)), x.1.pairs.length ≤ 1000 := ⟨by simp, fun x hx => by cases hx⟩
    have hc := rDecodeHint_any s (w1.alloc (.cells #[.slice none 0 0] 30)) hs
    go_wp2_with fail
    refine hc.mono ?_
    clear hc
    rintro e w2 ⟨hor, hb2⟩
    have hb2' : Below (w1.heap.size + 1) (w1.alloc (.cells #[.slice none 0 0] 30)) w2 := by simpa using hb2
    clear hb2
    rcases hor with ⟨v2, hv2, rfl, own2, g2, ht2⟩ | ⟨hno2, rfl⟩
    case inl => exact absurd ht2 (hno1 _ g2)
    have own2 : OwnHint w2 (w1.heap.size + 1) (.slice none 0 0) [] := ownHint_nil _ _
    have hsame : hdat [] = hdat [] := rfl
    clear hno1 hno2
    have hz2 := hb2'.size
    simp at hz2
    have x1 : w2.cell? ⟨w1.heap.size, 0, none⟩ = some (.slice none 0 0) := (hb2'.cell (by simp)).trans (by simp)
    have hb12 := Below.under hb2'
    have own1' := own1.apartFrom' hb12
    have hsm1 := good1
    have rr0 := cell_keep hb12 r0
    have rrf := (hb12.frozen (p := ⟨w.heap.size, 0, none⟩) hzl).trans rf
    have hzl2 : w1.heap.size < w2.heap.size := by omega
    have hzl3 : w.heap.size < w2.heap.size := by omega
    have rd1 := (own1'.alloc (.cells #[(.slice none 0 0)] 30)).rd
    have rd2 := (own2.alloc (.cells #[(.slice none 0 0)] 30)).rd
    go_wp2_with fail
    refine (sameHint_any _ _ _ _ rd1 rd2).mono ?_
    rintro e w3 ⟨rfl, hb3⟩
    have hb3' : Below (w2.heap.size + 1) (w2.alloc (.cells #[(.slice none 0 0)] 30)) w3 := by simpa using hb3
    clear hb3 rd1 rd2
    have hb23 := Below.under hb3'
    have hz3 := hb3'.size
    simp at hz3
    have y1 := cell_keep hb23 x1
    have y2 : w3.cell? ⟨w2.heap.size, 0, none⟩ = some (.slice none 0 0) := (hb3'.cell (by simp)).trans (by simp)
    have y0 := cell_keep hb23 rr0
    have yf := (hb23.frozen (p := ⟨w.heap.size, 0, none⟩) hzl3).trans rrf
    have o31 := own1'.apartFrom' hb23
    have o32 := own2.apartFrom' hb23
    have hS : ∀ g, hblk (.slice none 0 0) [] g → w.heap.size + 1 ≤ g ∧ g < w1.heap.size := fun g hg => by
      have := hblk_lt own1 g hg
      exact this
    have hSv : ∀ g, (Value.slice none 0 0).ownBlock = some g → hblk (.slice none 0 0) [] g := fun g hg => .inl hg
    have hSx : ∀ x ∈ ([] : List (PingD × Value)), ∀ g, x.2.ownBlock = some g → hblk (.slice none 0 0) [] g := fun x hx g hg => .inr ⟨x, hx, hg⟩
    have hn1 : ¬ hblk (.slice none 0 0) [] w1.heap.size := fun h => by have := hS _ h; omega
    have hn2 : ¬ hblk (.slice none 0 0) [] w2.heap.size := fun h => by have := hS _ h; omega
    have hn0 : ¬ hblk (.slice none 0 0) [] w.heap.size := fun h => by have := hS _ h; omega
    have hbh := behindHint_any (.slice none 0 0) [] w3 (w.heap.size + 1) o31 (by omega) hsm1.1 hsm1.2 (hblk (.slice none 0 0) []) hSv hSx
    go_wp2_with fail
    refine hbh.mono ?_
    clear hbh
    rintro e w4 ⟨rfl, o41, hk4⟩
    have u1 := hk4.cell hn1 y1
    have u2 := hk4.cell hn2 y2
    have u0 := hk4.cell hn0 y0
    have uf : w4.frozen? ⟨w.heap.size, 0, none⟩ = false := (World.frozen?_of_block (w := w3) (hk4.block w.heap.size (by omega) hn0)).trans yf
    have o42 := o32.apartFrom hk4 (fun g hg => by have := hS g hg; omega)
    have hz4 := hk4.size
    have rd1 := o41.rd
    have rd2 := o42.rd
    go_wp2_with fail
    refine (sameHint_any _ _ _ _ rd1 rd2).mono ?_
    rintro e w5 ⟨rfl, hb5⟩
    have v1 := cell_keep hb5 u1
    have v0 := cell_keep hb5 u0
    have vf := (hb5.frozen (p := ⟨w.heap.size, 0, none⟩) (by show w.heap.size < w4.heap.size; omega)).trans uf
    have o51 := o41.apartFrom' hb5
    have hz5 := hb5.size
    have hoh := ownHint2_any (.slice none 0 0) [] w5 (w.heap.size + 1) (77 + 100 * k) o51 (by omega) hsm1.1 hsm1.2 (by omega) (hblk (.slice none 0 0) []) hSv hSx
    clear rd1 rd2
    go_wp2_with fail
    refine hoh.mono ?_
    clear hoh
    rintro e w6 ⟨rfl, ⟨hv6, o61, l61⟩, hk6⟩
    have t1 := hk6.cell hn1 v1
    have t0 := hk6.cell hn0 v0
    have tf : w6.frozen? ⟨w.heap.size, 0, none⟩ = false := (World.frozen?_of_block (w := w5) (hk6.block w.heap.size (by omega) hn0)).trans vf
    have B3 := hb01.trans (hb12.mono (by omega)) |>.trans (hb23.mono (by omega))
    have B4 := B3.trans ((hk4.toBelow (B := w.heap.size) (by omega) (fun g hg => by have := hS g hg; omega)))
    have B6 := (B4.trans (hb5.mono (by omega))).trans ((hk6.toBelow (B := w.heap.size) (by omega) (fun g hg => by have := hS g hg; omega)))
    have hfin := HP.out (.slice none 0 0) hv6 (w6.setCell ⟨w.heap.size, 0, none⟩ (.slice none 0 0)) ((o61.set (by simp) _).base (by omega)) l61 (B6.setCell (by simp) _)
    clear hk6 hk4 o41 o42 o51 o61 o31 o32 own1 own2 own1' B3 B4 B6 HP hSv hSx
    go_wp2
    exact bodyPost_ret (v := .tuple #[.agg #[(.slice none 0 0)], .bool true]) (by simp [results, Tryz.results42, go_sem, t0]) rfl hfin

end Go.Proofs.YtblhmeidbjigaabGreatDoor

/- Well made operations and ends, in the document's answer. -/
set_option linter.unusedSimpArgs false
set_option linter.unusedVariables false
namespace Go.Proofs.YtblhmeidbjigaabGreatDoor
open Go.RowKit

set_option maxHeartbeats 400000 in
theorem register_any (args regs data slots : Int) (bo : Option Addr) (bn bc : Nat) (n : Int) (w : World) :
    Calls Tryz.prog 142 #[.agg #[.int .i64 args, .int .i64 regs, .int .i64 data, .int .i64 slots, .slice bo bn bc], .int .i64 n] w fun e w' => e = .returned (.bool (below n regs)) ∧ w.alloc (.cells #[.int .i64 args, .int .i64 regs, .int .i64 data, .int .i64 slots, .slice bo bn bc] 25) = w' := by
  by_cases h : 0 ≤ n
  · go_enter Tryz.func142, Tryz.ntmps142
    go_wp2
    go_ret
    exact ⟨by simp [below, h], rfl⟩
  · have hb : below n regs = false := by simp only [below, h, false_and, decide_false]
    go_enter Tryz.func142, Tryz.ntmps142
    go_wp2
    go_ret
    exact ⟨by simp [hb], rfl⟩

set_option maxHeartbeats 400000 in
theorem slot_any (args regs data slots : Int) (bo : Option Addr) (bn bc : Nat) (n : Int) (w : World) :
    Calls Tryz.prog 144 #[.agg #[.int .i64 args, .int .i64 regs, .int .i64 data, .int .i64 slots, .slice bo bn bc], .int .i64 n] w fun e w' => e = .returned (.bool (below n slots)) ∧ w.alloc (.cells #[.int .i64 args, .int .i64 regs, .int .i64 data, .int .i64 slots, .slice bo bn bc] 25) = w' := by
  by_cases h : 0 ≤ n
  · go_enter Tryz.func144, Tryz.ntmps144
    go_wp2
    go_ret
    exact ⟨by simp [below, h], rfl⟩
  · have hb : below n slots = false := by simp only [below, h, false_and, decide_false]
    go_enter Tryz.func144, Tryz.ntmps144
    go_wp2
    go_ret
    exact ⟨by simp [hb], rfl⟩

set_option maxHeartbeats 400000 in
theorem octet_any (n : Int) (w : World) : Calls Tryz.prog 143 #[.int .i64 n] w fun e w' => e = .returned (.bool (below n 256)) ∧ w = w' := by
  by_cases h : 0 ≤ n
  · go_enter Tryz.func143, Tryz.ntmps143
    go_wp2
    go_ret
    refine ⟨?_, rfl⟩
    have : decide (n ≤ 255) = below n 256 := by simp only [below, h, true_and]; exact decide_eq_decide.2 (by omega)
    simp [← this]
  · have hb : below n 256 = false := by simp only [below, h, false_and, decide_false]
    go_enter Tryz.func143, Tryz.ntmps143
    go_wp2
    go_ret
    exact ⟨by simp [hb], rfl⟩

theorem Below.al {B : Nat} {a w : World} {o : Obj} (h : Below B a w) (hB : B ≤ a.heap.size) : Below B a (w.alloc o) := h.alloc (Nat.le_trans hB h.size) o

theorem int_beq_z (c : Int) : (c == 0) = decide (c = 0) := by by_cases h : c = 0 <;> simp [h]

set_option maxRecDepth 100000 in
set_option maxHeartbeats 2000000 in
theorem gOp1 (args regs data slots : Int) (bo : Option Addr) (bn bc : Nat) (a b c : Int) (w : World) :
    Calls Tryz.prog 109 #[.agg #[.int .i64 args, .int .i64 regs, .int .i64 data, .int .i64 slots, .slice bo bn bc], .agg #[.int .i64 1, .int .i64 a, .int .i64 b, .int .i64 c]] w fun e w' => e = .returned (.bool (opGood regs slots ⟨1, a, b, c⟩)) ∧ Below w.heap.size w w' := by
  cases h1 : below a regs
  · go_enter Tryz.func109, Tryz.ntmps109
    go_wp2_with (first | (go_at_call 142; refine (register_any _ _ _ _ _ _ _ _ _).mono ?_; rintro e w' ⟨rfl, rfl⟩) | (go_at_call 144; refine (slot_any _ _ _ _ _ _ _ _ _).mono ?_; rintro e w' ⟨rfl, rfl⟩) | (go_at_call 143; refine (octet_any _ _).mono ?_; rintro e w' ⟨rfl, rfl⟩))
    go_ret
    exact ⟨by simp [opGood, h1], (by (repeat refine Below.al ?_ (Nat.le_refl _)); exact Below.refl _ _)⟩
  cases h2 : below b 256
  · go_enter Tryz.func109, Tryz.ntmps109
    go_wp2_with (first | (go_at_call 142; refine (register_any _ _ _ _ _ _ _ _ _).mono ?_; rintro e w' ⟨rfl, rfl⟩) | (go_at_call 144; refine (slot_any _ _ _ _ _ _ _ _ _).mono ?_; rintro e w' ⟨rfl, rfl⟩) | (go_at_call 143; refine (octet_any _ _).mono ?_; rintro e w' ⟨rfl, rfl⟩))
    go_ret
    exact ⟨by simp [opGood, h1, h2], (by (repeat refine Below.al ?_ (Nat.le_refl _)); exact Below.refl _ _)⟩
  · go_enter Tryz.func109, Tryz.ntmps109
    go_wp2_with (first | (go_at_call 142; refine (register_any _ _ _ _ _ _ _ _ _).mono ?_; rintro e w' ⟨rfl, rfl⟩) | (go_at_call 144; refine (slot_any _ _ _ _ _ _ _ _ _).mono ?_; rintro e w' ⟨rfl, rfl⟩) | (go_at_call 143; refine (octet_any _ _).mono ?_; rintro e w' ⟨rfl, rfl⟩))
    go_ret
    exact ⟨by simp [opGood, h1, h2, int_beq_z], (by (repeat refine Below.al ?_ (Nat.le_refl _)); exact Below.refl _ _)⟩

set_option maxRecDepth 100000 in
set_option maxHeartbeats 2000000 in
theorem gOp2 (args regs data slots : Int) (bo : Option Addr) (bn bc : Nat) (a b c : Int) (w : World) :
    Calls Tryz.prog 109 #[.agg #[.int .i64 args, .int .i64 regs, .int .i64 data, .int .i64 slots, .slice bo bn bc], .agg #[.int .i64 2, .int .i64 a, .int .i64 b, .int .i64 c]] w fun e w' => e = .returned (.bool (opGood regs slots ⟨2, a, b, c⟩)) ∧ Below w.heap.size w w' := by
  cases h1 : below a regs
  · go_enter Tryz.func109, Tryz.ntmps109
    go_wp2_with (first | (go_at_call 142; refine (register_any _ _ _ _ _ _ _ _ _).mono ?_; rintro e w' ⟨rfl, rfl⟩) | (go_at_call 144; refine (slot_any _ _ _ _ _ _ _ _ _).mono ?_; rintro e w' ⟨rfl, rfl⟩) | (go_at_call 143; refine (octet_any _ _).mono ?_; rintro e w' ⟨rfl, rfl⟩))
    go_ret
    exact ⟨by simp [opGood, h1], (by (repeat refine Below.al ?_ (Nat.le_refl _)); exact Below.refl _ _)⟩
  cases h2 : below b regs
  · go_enter Tryz.func109, Tryz.ntmps109
    go_wp2_with (first | (go_at_call 142; refine (register_any _ _ _ _ _ _ _ _ _).mono ?_; rintro e w' ⟨rfl, rfl⟩) | (go_at_call 144; refine (slot_any _ _ _ _ _ _ _ _ _).mono ?_; rintro e w' ⟨rfl, rfl⟩) | (go_at_call 143; refine (octet_any _ _).mono ?_; rintro e w' ⟨rfl, rfl⟩))
    go_ret
    exact ⟨by simp [opGood, h1, h2], (by (repeat refine Below.al ?_ (Nat.le_refl _)); exact Below.refl _ _)⟩
  · go_enter Tryz.func109, Tryz.ntmps109
    go_wp2_with (first | (go_at_call 142; refine (register_any _ _ _ _ _ _ _ _ _).mono ?_; rintro e w' ⟨rfl, rfl⟩) | (go_at_call 144; refine (slot_any _ _ _ _ _ _ _ _ _).mono ?_; rintro e w' ⟨rfl, rfl⟩) | (go_at_call 143; refine (octet_any _ _).mono ?_; rintro e w' ⟨rfl, rfl⟩))
    go_ret
    exact ⟨by simp [opGood, h1, h2, int_beq_z], (by (repeat refine Below.al ?_ (Nat.le_refl _)); exact Below.refl _ _)⟩

set_option maxRecDepth 100000 in
set_option maxHeartbeats 2000000 in
theorem gOp3 (args regs data slots : Int) (bo : Option Addr) (bn bc : Nat) (a b c : Int) (w : World) :
    Calls Tryz.prog 109 #[.agg #[.int .i64 args, .int .i64 regs, .int .i64 data, .int .i64 slots, .slice bo bn bc], .agg #[.int .i64 3, .int .i64 a, .int .i64 b, .int .i64 c]] w fun e w' => e = .returned (.bool (opGood regs slots ⟨3, a, b, c⟩)) ∧ Below w.heap.size w w' := by
  cases h1 : below a regs
  · go_enter Tryz.func109, Tryz.ntmps109
    go_wp2_with (first | (go_at_call 142; refine (register_any _ _ _ _ _ _ _ _ _).mono ?_; rintro e w' ⟨rfl, rfl⟩) | (go_at_call 144; refine (slot_any _ _ _ _ _ _ _ _ _).mono ?_; rintro e w' ⟨rfl, rfl⟩) | (go_at_call 143; refine (octet_any _ _).mono ?_; rintro e w' ⟨rfl, rfl⟩))
    go_ret
    exact ⟨by simp [opGood, h1], (by (repeat refine Below.al ?_ (Nat.le_refl _)); exact Below.refl _ _)⟩
  cases h2 : below b regs
  · go_enter Tryz.func109, Tryz.ntmps109
    go_wp2_with (first | (go_at_call 142; refine (register_any _ _ _ _ _ _ _ _ _).mono ?_; rintro e w' ⟨rfl, rfl⟩) | (go_at_call 144; refine (slot_any _ _ _ _ _ _ _ _ _).mono ?_; rintro e w' ⟨rfl, rfl⟩) | (go_at_call 143; refine (octet_any _ _).mono ?_; rintro e w' ⟨rfl, rfl⟩))
    go_ret
    exact ⟨by simp [opGood, h1, h2], (by (repeat refine Below.al ?_ (Nat.le_refl _)); exact Below.refl _ _)⟩
  · go_enter Tryz.func109, Tryz.ntmps109
    go_wp2_with (first | (go_at_call 142; refine (register_any _ _ _ _ _ _ _ _ _).mono ?_; rintro e w' ⟨rfl, rfl⟩) | (go_at_call 144; refine (slot_any _ _ _ _ _ _ _ _ _).mono ?_; rintro e w' ⟨rfl, rfl⟩) | (go_at_call 143; refine (octet_any _ _).mono ?_; rintro e w' ⟨rfl, rfl⟩))
    go_ret
    exact ⟨by simp [opGood, h1, h2, int_beq_z], (by (repeat refine Below.al ?_ (Nat.le_refl _)); exact Below.refl _ _)⟩

set_option maxRecDepth 100000 in
set_option maxHeartbeats 2000000 in
theorem gOp4 (args regs data slots : Int) (bo : Option Addr) (bn bc : Nat) (a b c : Int) (w : World) :
    Calls Tryz.prog 109 #[.agg #[.int .i64 args, .int .i64 regs, .int .i64 data, .int .i64 slots, .slice bo bn bc], .agg #[.int .i64 4, .int .i64 a, .int .i64 b, .int .i64 c]] w fun e w' => e = .returned (.bool (opGood regs slots ⟨4, a, b, c⟩)) ∧ Below w.heap.size w w' := by
  cases h1 : below a regs
  · go_enter Tryz.func109, Tryz.ntmps109
    go_wp2_with (first | (go_at_call 142; refine (register_any _ _ _ _ _ _ _ _ _).mono ?_; rintro e w' ⟨rfl, rfl⟩) | (go_at_call 144; refine (slot_any _ _ _ _ _ _ _ _ _).mono ?_; rintro e w' ⟨rfl, rfl⟩) | (go_at_call 143; refine (octet_any _ _).mono ?_; rintro e w' ⟨rfl, rfl⟩))
    go_ret
    exact ⟨by simp [opGood, h1], (by (repeat refine Below.al ?_ (Nat.le_refl _)); exact Below.refl _ _)⟩
  cases h2 : below b regs
  · go_enter Tryz.func109, Tryz.ntmps109
    go_wp2_with (first | (go_at_call 142; refine (register_any _ _ _ _ _ _ _ _ _).mono ?_; rintro e w' ⟨rfl, rfl⟩) | (go_at_call 144; refine (slot_any _ _ _ _ _ _ _ _ _).mono ?_; rintro e w' ⟨rfl, rfl⟩) | (go_at_call 143; refine (octet_any _ _).mono ?_; rintro e w' ⟨rfl, rfl⟩))
    go_ret
    exact ⟨by simp [opGood, h1, h2], (by (repeat refine Below.al ?_ (Nat.le_refl _)); exact Below.refl _ _)⟩
  · go_enter Tryz.func109, Tryz.ntmps109
    go_wp2_with (first | (go_at_call 142; refine (register_any _ _ _ _ _ _ _ _ _).mono ?_; rintro e w' ⟨rfl, rfl⟩) | (go_at_call 144; refine (slot_any _ _ _ _ _ _ _ _ _).mono ?_; rintro e w' ⟨rfl, rfl⟩) | (go_at_call 143; refine (octet_any _ _).mono ?_; rintro e w' ⟨rfl, rfl⟩))
    go_ret
    exact ⟨by simp [opGood, h1, h2, int_beq_z], (by (repeat refine Below.al ?_ (Nat.le_refl _)); exact Below.refl _ _)⟩

set_option maxRecDepth 100000 in
set_option maxHeartbeats 2000000 in
theorem gOp5 (args regs data slots : Int) (bo : Option Addr) (bn bc : Nat) (a b c : Int) (w : World) :
    Calls Tryz.prog 109 #[.agg #[.int .i64 args, .int .i64 regs, .int .i64 data, .int .i64 slots, .slice bo bn bc], .agg #[.int .i64 5, .int .i64 a, .int .i64 b, .int .i64 c]] w fun e w' => e = .returned (.bool (opGood regs slots ⟨5, a, b, c⟩)) ∧ Below w.heap.size w w' := by
  cases h1 : below a regs
  · go_enter Tryz.func109, Tryz.ntmps109
    go_wp2_with (first | (go_at_call 142; refine (register_any _ _ _ _ _ _ _ _ _).mono ?_; rintro e w' ⟨rfl, rfl⟩) | (go_at_call 144; refine (slot_any _ _ _ _ _ _ _ _ _).mono ?_; rintro e w' ⟨rfl, rfl⟩) | (go_at_call 143; refine (octet_any _ _).mono ?_; rintro e w' ⟨rfl, rfl⟩))
    go_ret
    exact ⟨by simp [opGood, h1], (by (repeat refine Below.al ?_ (Nat.le_refl _)); exact Below.refl _ _)⟩
  cases h2 : below b regs
  · go_enter Tryz.func109, Tryz.ntmps109
    go_wp2_with (first | (go_at_call 142; refine (register_any _ _ _ _ _ _ _ _ _).mono ?_; rintro e w' ⟨rfl, rfl⟩) | (go_at_call 144; refine (slot_any _ _ _ _ _ _ _ _ _).mono ?_; rintro e w' ⟨rfl, rfl⟩) | (go_at_call 143; refine (octet_any _ _).mono ?_; rintro e w' ⟨rfl, rfl⟩))
    go_ret
    exact ⟨by simp [opGood, h1, h2], (by (repeat refine Below.al ?_ (Nat.le_refl _)); exact Below.refl _ _)⟩
  · go_enter Tryz.func109, Tryz.ntmps109
    go_wp2_with (first | (go_at_call 142; refine (register_any _ _ _ _ _ _ _ _ _).mono ?_; rintro e w' ⟨rfl, rfl⟩) | (go_at_call 144; refine (slot_any _ _ _ _ _ _ _ _ _).mono ?_; rintro e w' ⟨rfl, rfl⟩) | (go_at_call 143; refine (octet_any _ _).mono ?_; rintro e w' ⟨rfl, rfl⟩))
    go_ret
    exact ⟨by simp [opGood, h1, h2, int_beq_z], (by (repeat refine Below.al ?_ (Nat.le_refl _)); exact Below.refl _ _)⟩

set_option maxRecDepth 100000 in
set_option maxHeartbeats 2000000 in
theorem gOp6 (args regs data slots : Int) (bo : Option Addr) (bn bc : Nat) (a b c : Int) (w : World) :
    Calls Tryz.prog 109 #[.agg #[.int .i64 args, .int .i64 regs, .int .i64 data, .int .i64 slots, .slice bo bn bc], .agg #[.int .i64 6, .int .i64 a, .int .i64 b, .int .i64 c]] w fun e w' => e = .returned (.bool (opGood regs slots ⟨6, a, b, c⟩)) ∧ Below w.heap.size w w' := by
  cases h1 : below a regs
  · go_enter Tryz.func109, Tryz.ntmps109
    go_wp2_with (first | (go_at_call 142; refine (register_any _ _ _ _ _ _ _ _ _).mono ?_; rintro e w' ⟨rfl, rfl⟩) | (go_at_call 144; refine (slot_any _ _ _ _ _ _ _ _ _).mono ?_; rintro e w' ⟨rfl, rfl⟩) | (go_at_call 143; refine (octet_any _ _).mono ?_; rintro e w' ⟨rfl, rfl⟩))
    go_ret
    exact ⟨by simp [opGood, h1], (by (repeat refine Below.al ?_ (Nat.le_refl _)); exact Below.refl _ _)⟩
  cases h2 : below b regs
  · go_enter Tryz.func109, Tryz.ntmps109
    go_wp2_with (first | (go_at_call 142; refine (register_any _ _ _ _ _ _ _ _ _).mono ?_; rintro e w' ⟨rfl, rfl⟩) | (go_at_call 144; refine (slot_any _ _ _ _ _ _ _ _ _).mono ?_; rintro e w' ⟨rfl, rfl⟩) | (go_at_call 143; refine (octet_any _ _).mono ?_; rintro e w' ⟨rfl, rfl⟩))
    go_ret
    exact ⟨by simp [opGood, h1, h2], (by (repeat refine Below.al ?_ (Nat.le_refl _)); exact Below.refl _ _)⟩
  · go_enter Tryz.func109, Tryz.ntmps109
    go_wp2_with (first | (go_at_call 142; refine (register_any _ _ _ _ _ _ _ _ _).mono ?_; rintro e w' ⟨rfl, rfl⟩) | (go_at_call 144; refine (slot_any _ _ _ _ _ _ _ _ _).mono ?_; rintro e w' ⟨rfl, rfl⟩) | (go_at_call 143; refine (octet_any _ _).mono ?_; rintro e w' ⟨rfl, rfl⟩))
    go_ret
    exact ⟨by simp [opGood, h1, h2, int_beq_z], (by (repeat refine Below.al ?_ (Nat.le_refl _)); exact Below.refl _ _)⟩

set_option maxRecDepth 100000 in
set_option maxHeartbeats 2000000 in
theorem gOp7 (args regs data slots : Int) (bo : Option Addr) (bn bc : Nat) (a b c : Int) (w : World) :
    Calls Tryz.prog 109 #[.agg #[.int .i64 args, .int .i64 regs, .int .i64 data, .int .i64 slots, .slice bo bn bc], .agg #[.int .i64 7, .int .i64 a, .int .i64 b, .int .i64 c]] w fun e w' => e = .returned (.bool (opGood regs slots ⟨7, a, b, c⟩)) ∧ Below w.heap.size w w' := by
  cases h1 : below a regs
  · go_enter Tryz.func109, Tryz.ntmps109
    go_wp2_with (first | (go_at_call 142; refine (register_any _ _ _ _ _ _ _ _ _).mono ?_; rintro e w' ⟨rfl, rfl⟩) | (go_at_call 144; refine (slot_any _ _ _ _ _ _ _ _ _).mono ?_; rintro e w' ⟨rfl, rfl⟩) | (go_at_call 143; refine (octet_any _ _).mono ?_; rintro e w' ⟨rfl, rfl⟩))
    go_ret
    exact ⟨by simp [opGood, h1], (by (repeat refine Below.al ?_ (Nat.le_refl _)); exact Below.refl _ _)⟩
  cases h2 : below b regs
  · go_enter Tryz.func109, Tryz.ntmps109
    go_wp2_with (first | (go_at_call 142; refine (register_any _ _ _ _ _ _ _ _ _).mono ?_; rintro e w' ⟨rfl, rfl⟩) | (go_at_call 144; refine (slot_any _ _ _ _ _ _ _ _ _).mono ?_; rintro e w' ⟨rfl, rfl⟩) | (go_at_call 143; refine (octet_any _ _).mono ?_; rintro e w' ⟨rfl, rfl⟩))
    go_ret
    exact ⟨by simp [opGood, h1, h2], (by (repeat refine Below.al ?_ (Nat.le_refl _)); exact Below.refl _ _)⟩
  · go_enter Tryz.func109, Tryz.ntmps109
    go_wp2_with (first | (go_at_call 142; refine (register_any _ _ _ _ _ _ _ _ _).mono ?_; rintro e w' ⟨rfl, rfl⟩) | (go_at_call 144; refine (slot_any _ _ _ _ _ _ _ _ _).mono ?_; rintro e w' ⟨rfl, rfl⟩) | (go_at_call 143; refine (octet_any _ _).mono ?_; rintro e w' ⟨rfl, rfl⟩))
    go_ret
    exact ⟨by simp [opGood, h1, h2, int_beq_z], (by (repeat refine Below.al ?_ (Nat.le_refl _)); exact Below.refl _ _)⟩

set_option maxRecDepth 100000 in
set_option maxHeartbeats 2000000 in
theorem gOp8 (args regs data slots : Int) (bo : Option Addr) (bn bc : Nat) (a b c : Int) (w : World) :
    Calls Tryz.prog 109 #[.agg #[.int .i64 args, .int .i64 regs, .int .i64 data, .int .i64 slots, .slice bo bn bc], .agg #[.int .i64 8, .int .i64 a, .int .i64 b, .int .i64 c]] w fun e w' => e = .returned (.bool (opGood regs slots ⟨8, a, b, c⟩)) ∧ Below w.heap.size w w' := by
  cases h1 : below a regs
  · go_enter Tryz.func109, Tryz.ntmps109
    go_wp2_with (first | (go_at_call 142; refine (register_any _ _ _ _ _ _ _ _ _).mono ?_; rintro e w' ⟨rfl, rfl⟩) | (go_at_call 144; refine (slot_any _ _ _ _ _ _ _ _ _).mono ?_; rintro e w' ⟨rfl, rfl⟩) | (go_at_call 143; refine (octet_any _ _).mono ?_; rintro e w' ⟨rfl, rfl⟩))
    go_ret
    exact ⟨by simp [opGood, h1], (by (repeat refine Below.al ?_ (Nat.le_refl _)); exact Below.refl _ _)⟩
  cases h2 : below b regs
  · go_enter Tryz.func109, Tryz.ntmps109
    go_wp2_with (first | (go_at_call 142; refine (register_any _ _ _ _ _ _ _ _ _).mono ?_; rintro e w' ⟨rfl, rfl⟩) | (go_at_call 144; refine (slot_any _ _ _ _ _ _ _ _ _).mono ?_; rintro e w' ⟨rfl, rfl⟩) | (go_at_call 143; refine (octet_any _ _).mono ?_; rintro e w' ⟨rfl, rfl⟩))
    go_ret
    exact ⟨by simp [opGood, h1, h2], (by (repeat refine Below.al ?_ (Nat.le_refl _)); exact Below.refl _ _)⟩
  · go_enter Tryz.func109, Tryz.ntmps109
    go_wp2_with (first | (go_at_call 142; refine (register_any _ _ _ _ _ _ _ _ _).mono ?_; rintro e w' ⟨rfl, rfl⟩) | (go_at_call 144; refine (slot_any _ _ _ _ _ _ _ _ _).mono ?_; rintro e w' ⟨rfl, rfl⟩) | (go_at_call 143; refine (octet_any _ _).mono ?_; rintro e w' ⟨rfl, rfl⟩))
    go_ret
    exact ⟨by simp [opGood, h1, h2, int_beq_z], (by (repeat refine Below.al ?_ (Nat.le_refl _)); exact Below.refl _ _)⟩

end Go.Proofs.YtblhmeidbjigaabGreatDoor

/- Well made operations, in the document's answer. -/
set_option linter.unusedSimpArgs false
set_option linter.unusedVariables false
namespace Go.Proofs.YtblhmeidbjigaabGreatDoor
open Go.RowKit

set_option maxRecDepth 100000 in
set_option maxHeartbeats 2000000 in
theorem gOp9 (args regs data slots : Int) (bo : Option Addr) (bn bc : Nat) (a b c : Int) (w : World) :
    Calls Tryz.prog 109 #[.agg #[.int .i64 args, .int .i64 regs, .int .i64 data, .int .i64 slots, .slice bo bn bc], .agg #[.int .i64 9, .int .i64 a, .int .i64 b, .int .i64 c]] w fun e w' => e = .returned (.bool (opGood regs slots ⟨9, a, b, c⟩)) ∧ Below w.heap.size w w' := by
  cases h1 : below a regs
  · go_enter Tryz.func109, Tryz.ntmps109
    go_wp2_with (first | (go_at_call 142; refine (register_any _ _ _ _ _ _ _ _ _).mono ?_; rintro e w' ⟨rfl, rfl⟩) | (go_at_call 144; refine (slot_any _ _ _ _ _ _ _ _ _).mono ?_; rintro e w' ⟨rfl, rfl⟩) | (go_at_call 143; refine (octet_any _ _).mono ?_; rintro e w' ⟨rfl, rfl⟩))
    go_ret
    exact ⟨by simp [opGood, h1], (by (repeat refine Below.al ?_ (Nat.le_refl _)); exact Below.refl _ _)⟩
  cases h2 : below b regs
  · go_enter Tryz.func109, Tryz.ntmps109
    go_wp2_with (first | (go_at_call 142; refine (register_any _ _ _ _ _ _ _ _ _).mono ?_; rintro e w' ⟨rfl, rfl⟩) | (go_at_call 144; refine (slot_any _ _ _ _ _ _ _ _ _).mono ?_; rintro e w' ⟨rfl, rfl⟩) | (go_at_call 143; refine (octet_any _ _).mono ?_; rintro e w' ⟨rfl, rfl⟩))
    go_ret
    exact ⟨by simp [opGood, h1, h2], (by (repeat refine Below.al ?_ (Nat.le_refl _)); exact Below.refl _ _)⟩
  · go_enter Tryz.func109, Tryz.ntmps109
    go_wp2_with (first | (go_at_call 142; refine (register_any _ _ _ _ _ _ _ _ _).mono ?_; rintro e w' ⟨rfl, rfl⟩) | (go_at_call 144; refine (slot_any _ _ _ _ _ _ _ _ _).mono ?_; rintro e w' ⟨rfl, rfl⟩) | (go_at_call 143; refine (octet_any _ _).mono ?_; rintro e w' ⟨rfl, rfl⟩))
    go_ret
    exact ⟨by simp [opGood, h1, h2, int_beq_z], (by (repeat refine Below.al ?_ (Nat.le_refl _)); exact Below.refl _ _)⟩

set_option maxRecDepth 100000 in
set_option maxHeartbeats 2000000 in
theorem gOp10 (args regs data slots : Int) (bo : Option Addr) (bn bc : Nat) (a b c : Int) (w : World) :
    Calls Tryz.prog 109 #[.agg #[.int .i64 args, .int .i64 regs, .int .i64 data, .int .i64 slots, .slice bo bn bc], .agg #[.int .i64 10, .int .i64 a, .int .i64 b, .int .i64 c]] w fun e w' => e = .returned (.bool (opGood regs slots ⟨10, a, b, c⟩)) ∧ Below w.heap.size w w' := by
  cases h1 : below a regs
  · go_enter Tryz.func109, Tryz.ntmps109
    go_wp2_with (first | (go_at_call 142; refine (register_any _ _ _ _ _ _ _ _ _).mono ?_; rintro e w' ⟨rfl, rfl⟩) | (go_at_call 144; refine (slot_any _ _ _ _ _ _ _ _ _).mono ?_; rintro e w' ⟨rfl, rfl⟩) | (go_at_call 143; refine (octet_any _ _).mono ?_; rintro e w' ⟨rfl, rfl⟩))
    go_ret
    exact ⟨by simp [opGood, h1], (by (repeat refine Below.al ?_ (Nat.le_refl _)); exact Below.refl _ _)⟩
  cases h2 : below b regs
  · go_enter Tryz.func109, Tryz.ntmps109
    go_wp2_with (first | (go_at_call 142; refine (register_any _ _ _ _ _ _ _ _ _).mono ?_; rintro e w' ⟨rfl, rfl⟩) | (go_at_call 144; refine (slot_any _ _ _ _ _ _ _ _ _).mono ?_; rintro e w' ⟨rfl, rfl⟩) | (go_at_call 143; refine (octet_any _ _).mono ?_; rintro e w' ⟨rfl, rfl⟩))
    go_ret
    exact ⟨by simp [opGood, h1, h2], (by (repeat refine Below.al ?_ (Nat.le_refl _)); exact Below.refl _ _)⟩
  · go_enter Tryz.func109, Tryz.ntmps109
    go_wp2_with (first | (go_at_call 142; refine (register_any _ _ _ _ _ _ _ _ _).mono ?_; rintro e w' ⟨rfl, rfl⟩) | (go_at_call 144; refine (slot_any _ _ _ _ _ _ _ _ _).mono ?_; rintro e w' ⟨rfl, rfl⟩) | (go_at_call 143; refine (octet_any _ _).mono ?_; rintro e w' ⟨rfl, rfl⟩))
    go_ret
    exact ⟨by simp [opGood, h1, h2, int_beq_z], (by (repeat refine Below.al ?_ (Nat.le_refl _)); exact Below.refl _ _)⟩

set_option maxRecDepth 100000 in
set_option maxHeartbeats 2000000 in
theorem gOp11 (args regs data slots : Int) (bo : Option Addr) (bn bc : Nat) (a b c : Int) (w : World) :
    Calls Tryz.prog 109 #[.agg #[.int .i64 args, .int .i64 regs, .int .i64 data, .int .i64 slots, .slice bo bn bc], .agg #[.int .i64 11, .int .i64 a, .int .i64 b, .int .i64 c]] w fun e w' => e = .returned (.bool (opGood regs slots ⟨11, a, b, c⟩)) ∧ Below w.heap.size w w' := by
  cases h1 : below a regs
  · go_enter Tryz.func109, Tryz.ntmps109
    go_wp2_with (first | (go_at_call 142; refine (register_any _ _ _ _ _ _ _ _ _).mono ?_; rintro e w' ⟨rfl, rfl⟩) | (go_at_call 144; refine (slot_any _ _ _ _ _ _ _ _ _).mono ?_; rintro e w' ⟨rfl, rfl⟩) | (go_at_call 143; refine (octet_any _ _).mono ?_; rintro e w' ⟨rfl, rfl⟩))
    go_ret
    exact ⟨by simp [opGood, h1], (by (repeat refine Below.al ?_ (Nat.le_refl _)); exact Below.refl _ _)⟩
  cases h2 : below b regs
  · go_enter Tryz.func109, Tryz.ntmps109
    go_wp2_with (first | (go_at_call 142; refine (register_any _ _ _ _ _ _ _ _ _).mono ?_; rintro e w' ⟨rfl, rfl⟩) | (go_at_call 144; refine (slot_any _ _ _ _ _ _ _ _ _).mono ?_; rintro e w' ⟨rfl, rfl⟩) | (go_at_call 143; refine (octet_any _ _).mono ?_; rintro e w' ⟨rfl, rfl⟩))
    go_ret
    exact ⟨by simp [opGood, h1, h2], (by (repeat refine Below.al ?_ (Nat.le_refl _)); exact Below.refl _ _)⟩
  · go_enter Tryz.func109, Tryz.ntmps109
    go_wp2_with (first | (go_at_call 142; refine (register_any _ _ _ _ _ _ _ _ _).mono ?_; rintro e w' ⟨rfl, rfl⟩) | (go_at_call 144; refine (slot_any _ _ _ _ _ _ _ _ _).mono ?_; rintro e w' ⟨rfl, rfl⟩) | (go_at_call 143; refine (octet_any _ _).mono ?_; rintro e w' ⟨rfl, rfl⟩))
    go_ret
    exact ⟨by simp [opGood, h1, h2, int_beq_z], (by (repeat refine Below.al ?_ (Nat.le_refl _)); exact Below.refl _ _)⟩

set_option maxRecDepth 100000 in
set_option maxHeartbeats 2000000 in
theorem gOp12 (args regs data slots : Int) (bo : Option Addr) (bn bc : Nat) (a b c : Int) (w : World) :
    Calls Tryz.prog 109 #[.agg #[.int .i64 args, .int .i64 regs, .int .i64 data, .int .i64 slots, .slice bo bn bc], .agg #[.int .i64 12, .int .i64 a, .int .i64 b, .int .i64 c]] w fun e w' => e = .returned (.bool (opGood regs slots ⟨12, a, b, c⟩)) ∧ Below w.heap.size w w' := by
  cases h1 : below a regs
  · go_enter Tryz.func109, Tryz.ntmps109
    go_wp2_with (first | (go_at_call 142; refine (register_any _ _ _ _ _ _ _ _ _).mono ?_; rintro e w' ⟨rfl, rfl⟩) | (go_at_call 144; refine (slot_any _ _ _ _ _ _ _ _ _).mono ?_; rintro e w' ⟨rfl, rfl⟩) | (go_at_call 143; refine (octet_any _ _).mono ?_; rintro e w' ⟨rfl, rfl⟩))
    go_ret
    exact ⟨by simp [opGood, h1], (by (repeat refine Below.al ?_ (Nat.le_refl _)); exact Below.refl _ _)⟩
  cases h2 : below b regs
  · go_enter Tryz.func109, Tryz.ntmps109
    go_wp2_with (first | (go_at_call 142; refine (register_any _ _ _ _ _ _ _ _ _).mono ?_; rintro e w' ⟨rfl, rfl⟩) | (go_at_call 144; refine (slot_any _ _ _ _ _ _ _ _ _).mono ?_; rintro e w' ⟨rfl, rfl⟩) | (go_at_call 143; refine (octet_any _ _).mono ?_; rintro e w' ⟨rfl, rfl⟩))
    go_ret
    exact ⟨by simp [opGood, h1, h2], (by (repeat refine Below.al ?_ (Nat.le_refl _)); exact Below.refl _ _)⟩
  · go_enter Tryz.func109, Tryz.ntmps109
    go_wp2_with (first | (go_at_call 142; refine (register_any _ _ _ _ _ _ _ _ _).mono ?_; rintro e w' ⟨rfl, rfl⟩) | (go_at_call 144; refine (slot_any _ _ _ _ _ _ _ _ _).mono ?_; rintro e w' ⟨rfl, rfl⟩) | (go_at_call 143; refine (octet_any _ _).mono ?_; rintro e w' ⟨rfl, rfl⟩))
    go_ret
    exact ⟨by simp [opGood, h1, h2, int_beq_z], (by (repeat refine Below.al ?_ (Nat.le_refl _)); exact Below.refl _ _)⟩

set_option maxRecDepth 100000 in
set_option maxHeartbeats 2000000 in
theorem gOp13 (args regs data slots : Int) (bo : Option Addr) (bn bc : Nat) (a b c : Int) (w : World) :
    Calls Tryz.prog 109 #[.agg #[.int .i64 args, .int .i64 regs, .int .i64 data, .int .i64 slots, .slice bo bn bc], .agg #[.int .i64 13, .int .i64 a, .int .i64 b, .int .i64 c]] w fun e w' => e = .returned (.bool (opGood regs slots ⟨13, a, b, c⟩)) ∧ Below w.heap.size w w' := by
  cases h1 : below a regs
  · go_enter Tryz.func109, Tryz.ntmps109
    go_wp2_with (first | (go_at_call 142; refine (register_any _ _ _ _ _ _ _ _ _).mono ?_; rintro e w' ⟨rfl, rfl⟩) | (go_at_call 144; refine (slot_any _ _ _ _ _ _ _ _ _).mono ?_; rintro e w' ⟨rfl, rfl⟩) | (go_at_call 143; refine (octet_any _ _).mono ?_; rintro e w' ⟨rfl, rfl⟩))
    go_ret
    exact ⟨by simp [opGood, h1], (by (repeat refine Below.al ?_ (Nat.le_refl _)); exact Below.refl _ _)⟩
  cases h2 : below b regs
  · go_enter Tryz.func109, Tryz.ntmps109
    go_wp2_with (first | (go_at_call 142; refine (register_any _ _ _ _ _ _ _ _ _).mono ?_; rintro e w' ⟨rfl, rfl⟩) | (go_at_call 144; refine (slot_any _ _ _ _ _ _ _ _ _).mono ?_; rintro e w' ⟨rfl, rfl⟩) | (go_at_call 143; refine (octet_any _ _).mono ?_; rintro e w' ⟨rfl, rfl⟩))
    go_ret
    exact ⟨by simp [opGood, h1, h2], (by (repeat refine Below.al ?_ (Nat.le_refl _)); exact Below.refl _ _)⟩
  · go_enter Tryz.func109, Tryz.ntmps109
    go_wp2_with (first | (go_at_call 142; refine (register_any _ _ _ _ _ _ _ _ _).mono ?_; rintro e w' ⟨rfl, rfl⟩) | (go_at_call 144; refine (slot_any _ _ _ _ _ _ _ _ _).mono ?_; rintro e w' ⟨rfl, rfl⟩) | (go_at_call 143; refine (octet_any _ _).mono ?_; rintro e w' ⟨rfl, rfl⟩))
    go_ret
    exact ⟨by simp [opGood, h1, h2, int_beq_z], (by (repeat refine Below.al ?_ (Nat.le_refl _)); exact Below.refl _ _)⟩

set_option maxRecDepth 100000 in
set_option maxHeartbeats 2000000 in
theorem gOp14 (args regs data slots : Int) (bo : Option Addr) (bn bc : Nat) (a b c : Int) (w : World) :
    Calls Tryz.prog 109 #[.agg #[.int .i64 args, .int .i64 regs, .int .i64 data, .int .i64 slots, .slice bo bn bc], .agg #[.int .i64 14, .int .i64 a, .int .i64 b, .int .i64 c]] w fun e w' => e = .returned (.bool (opGood regs slots ⟨14, a, b, c⟩)) ∧ Below w.heap.size w w' := by
  cases h1 : below a slots
  · go_enter Tryz.func109, Tryz.ntmps109
    go_wp2_with (first | (go_at_call 142; refine (register_any _ _ _ _ _ _ _ _ _).mono ?_; rintro e w' ⟨rfl, rfl⟩) | (go_at_call 144; refine (slot_any _ _ _ _ _ _ _ _ _).mono ?_; rintro e w' ⟨rfl, rfl⟩) | (go_at_call 143; refine (octet_any _ _).mono ?_; rintro e w' ⟨rfl, rfl⟩))
    go_ret
    exact ⟨by simp [opGood, h1], (by (repeat refine Below.al ?_ (Nat.le_refl _)); exact Below.refl _ _)⟩
  cases h2 : below b regs
  · go_enter Tryz.func109, Tryz.ntmps109
    go_wp2_with (first | (go_at_call 142; refine (register_any _ _ _ _ _ _ _ _ _).mono ?_; rintro e w' ⟨rfl, rfl⟩) | (go_at_call 144; refine (slot_any _ _ _ _ _ _ _ _ _).mono ?_; rintro e w' ⟨rfl, rfl⟩) | (go_at_call 143; refine (octet_any _ _).mono ?_; rintro e w' ⟨rfl, rfl⟩))
    go_ret
    exact ⟨by simp [opGood, h1, h2], (by (repeat refine Below.al ?_ (Nat.le_refl _)); exact Below.refl _ _)⟩
  · go_enter Tryz.func109, Tryz.ntmps109
    go_wp2_with (first | (go_at_call 142; refine (register_any _ _ _ _ _ _ _ _ _).mono ?_; rintro e w' ⟨rfl, rfl⟩) | (go_at_call 144; refine (slot_any _ _ _ _ _ _ _ _ _).mono ?_; rintro e w' ⟨rfl, rfl⟩) | (go_at_call 143; refine (octet_any _ _).mono ?_; rintro e w' ⟨rfl, rfl⟩))
    go_ret
    exact ⟨by simp [opGood, h1, h2, int_beq_z], (by (repeat refine Below.al ?_ (Nat.le_refl _)); exact Below.refl _ _)⟩

set_option maxRecDepth 100000 in
set_option maxHeartbeats 2000000 in
theorem gOp15 (args regs data slots : Int) (bo : Option Addr) (bn bc : Nat) (a b c : Int) (w : World) :
    Calls Tryz.prog 109 #[.agg #[.int .i64 args, .int .i64 regs, .int .i64 data, .int .i64 slots, .slice bo bn bc], .agg #[.int .i64 15, .int .i64 a, .int .i64 b, .int .i64 c]] w fun e w' => e = .returned (.bool (opGood regs slots ⟨15, a, b, c⟩)) ∧ Below w.heap.size w w' := by
  cases h1 : below a regs
  · go_enter Tryz.func109, Tryz.ntmps109
    go_wp2_with (first | (go_at_call 142; refine (register_any _ _ _ _ _ _ _ _ _).mono ?_; rintro e w' ⟨rfl, rfl⟩) | (go_at_call 144; refine (slot_any _ _ _ _ _ _ _ _ _).mono ?_; rintro e w' ⟨rfl, rfl⟩) | (go_at_call 143; refine (octet_any _ _).mono ?_; rintro e w' ⟨rfl, rfl⟩))
    go_ret
    exact ⟨by simp [opGood, h1], (by (repeat refine Below.al ?_ (Nat.le_refl _)); exact Below.refl _ _)⟩
  cases h2 : below b slots
  · go_enter Tryz.func109, Tryz.ntmps109
    go_wp2_with (first | (go_at_call 142; refine (register_any _ _ _ _ _ _ _ _ _).mono ?_; rintro e w' ⟨rfl, rfl⟩) | (go_at_call 144; refine (slot_any _ _ _ _ _ _ _ _ _).mono ?_; rintro e w' ⟨rfl, rfl⟩) | (go_at_call 143; refine (octet_any _ _).mono ?_; rintro e w' ⟨rfl, rfl⟩))
    go_ret
    exact ⟨by simp [opGood, h1, h2], (by (repeat refine Below.al ?_ (Nat.le_refl _)); exact Below.refl _ _)⟩
  · go_enter Tryz.func109, Tryz.ntmps109
    go_wp2_with (first | (go_at_call 142; refine (register_any _ _ _ _ _ _ _ _ _).mono ?_; rintro e w' ⟨rfl, rfl⟩) | (go_at_call 144; refine (slot_any _ _ _ _ _ _ _ _ _).mono ?_; rintro e w' ⟨rfl, rfl⟩) | (go_at_call 143; refine (octet_any _ _).mono ?_; rintro e w' ⟨rfl, rfl⟩))
    go_ret
    exact ⟨by simp [opGood, h1, h2, int_beq_z], (by (repeat refine Below.al ?_ (Nat.le_refl _)); exact Below.refl _ _)⟩

set_option maxRecDepth 100000 in
set_option maxHeartbeats 2000000 in
theorem gOpNo (args regs data slots : Int) (bo : Option Addr) (bn bc : Nat) (k a b c : Int) (w : World) (hk : k < 1 ∨ 15 < k) :
    Calls Tryz.prog 109 #[.agg #[.int .i64 args, .int .i64 regs, .int .i64 data, .int .i64 slots, .slice bo bn bc], .agg #[.int .i64 k, .int .i64 a, .int .i64 b, .int .i64 c]] w fun e w' => e = .returned (.bool (opGood regs slots ⟨k, a, b, c⟩)) ∧ Below w.heap.size w w' := by
  have hg : opGood regs slots ⟨k, a, b, c⟩ = false := by
    unfold opGood
    rw [if_neg (by simp only []; omega), if_neg (by simp only []; omega), if_neg (by simp only []; omega), if_neg (by simp only []; omega), if_neg (by simp only []; omega)]
  have n1 : (k == 1) = false := by rw [beq_eq_false_iff_ne]; omega
  have n2 : (k == 2) = false := by rw [beq_eq_false_iff_ne]; omega
  have n12 : (k == 12) = false := by rw [beq_eq_false_iff_ne]; omega
  have n13 : (k == 13) = false := by rw [beq_eq_false_iff_ne]; omega
  have n14 : (k == 14) = false := by rw [beq_eq_false_iff_ne]; omega
  have n15 : (k == 15) = false := by rw [beq_eq_false_iff_ne]; omega
  rcases hk with hk | hk
  · have m1 : ¬ (3 ≤ k) := by omega
    go_enter Tryz.func109, Tryz.ntmps109
    go_wp2_with (first | (go_at_call 142; refine (register_any _ _ _ _ _ _ _ _ _).mono ?_; rintro e w' ⟨rfl, rfl⟩) | (go_at_call 144; refine (slot_any _ _ _ _ _ _ _ _ _).mono ?_; rintro e w' ⟨rfl, rfl⟩) | (go_at_call 143; refine (octet_any _ _).mono ?_; rintro e w' ⟨rfl, rfl⟩))
    go_ret
    exact ⟨by simp [hg], (by (repeat refine Below.al ?_ (Nat.le_refl _)); exact Below.refl _ _)⟩
  · have m1 : 3 ≤ k := by omega
    have m2 : ¬ (k ≤ 11) := by omega
    go_enter Tryz.func109, Tryz.ntmps109
    go_wp2_with (first | (go_at_call 142; refine (register_any _ _ _ _ _ _ _ _ _).mono ?_; rintro e w' ⟨rfl, rfl⟩) | (go_at_call 144; refine (slot_any _ _ _ _ _ _ _ _ _).mono ?_; rintro e w' ⟨rfl, rfl⟩) | (go_at_call 143; refine (octet_any _ _).mono ?_; rintro e w' ⟨rfl, rfl⟩))
    go_ret
    exact ⟨by simp [hg], (by (repeat refine Below.al ?_ (Nat.le_refl _)); exact Below.refl _ _)⟩

theorem gOp_any (args regs data slots : Int) (bo : Option Addr) (bn bc : Nat) (k a b c : Int) (w : World) :
    Calls Tryz.prog 109 #[.agg #[.int .i64 args, .int .i64 regs, .int .i64 data, .int .i64 slots, .slice bo bn bc], .agg #[.int .i64 k, .int .i64 a, .int .i64 b, .int .i64 c]] w fun e w' => e = .returned (.bool (opGood regs slots ⟨k, a, b, c⟩)) ∧ Below w.heap.size w w' := by
  by_cases hk : 1 ≤ k ∧ k ≤ 15
  · have : k = 1 ∨ k = 2 ∨ k = 3 ∨ k = 4 ∨ k = 5 ∨ k = 6 ∨ k = 7 ∨ k = 8 ∨ k = 9 ∨ k = 10 ∨ k = 11 ∨ k = 12 ∨ k = 13 ∨ k = 14 ∨ k = 15 := by omega
    rcases this with rfl | rfl | rfl | rfl | rfl | rfl | rfl | rfl | rfl | rfl | rfl | rfl | rfl | rfl | rfl
    · exact gOp1 args regs data slots bo bn bc a b c w
    · exact gOp2 args regs data slots bo bn bc a b c w
    · exact gOp3 args regs data slots bo bn bc a b c w
    · exact gOp4 args regs data slots bo bn bc a b c w
    · exact gOp5 args regs data slots bo bn bc a b c w
    · exact gOp6 args regs data slots bo bn bc a b c w
    · exact gOp7 args regs data slots bo bn bc a b c w
    · exact gOp8 args regs data slots bo bn bc a b c w
    · exact gOp9 args regs data slots bo bn bc a b c w
    · exact gOp10 args regs data slots bo bn bc a b c w
    · exact gOp11 args regs data slots bo bn bc a b c w
    · exact gOp12 args regs data slots bo bn bc a b c w
    · exact gOp13 args regs data slots bo bn bc a b c w
    · exact gOp14 args regs data slots bo bn bc a b c w
    · exact gOp15 args regs data slots bo bn bc a b c w
  · exact gOpNo args regs data slots bo bn bc k a b c w (by omega)

end Go.Proofs.YtblhmeidbjigaabGreatDoor
