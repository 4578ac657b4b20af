/- The owner writes into each list of a hint. -/
import Derived.Test.YtdjdjkgoelbbdaaAppToSto
import Derived.Test.YtdjdjkgoelbbdaaLawLToLawI
set_option linter.unusedSimpArgs false
set_option linter.unusedVariables false
namespace Go.Proofs.Ytdjdjkgoelbbdaa
open Go.RowKit

/-- The first k blocks bear their marks. -/
def Mkd (mark : Int) (k : Nat) (hv : List (PingD × Value)) : Prop := ∀ i (hi : i < hv.length), i < k → hv[i].1.src = mark + i ∧ ∀ j, j < hv[i].1.pairs.length → preg hv[i].1.pairs j = mark + i

theorem Mkd.set {mark : Int} {k : Nat} {hv : List (PingD × Value)} (h : Mkd mark k hv) (x : PingD × Value) : Mkd mark k (hv.set k x) := by
  intro i hi hik
  have e : (hv.set k x)[i] = hv[i]'(by simpa using hi) := by rw [List.getElem_set, if_neg (by omega)]
  rw [e]
  exact h i _ hik

set_option maxRecDepth 100000 in
set_option maxHeartbeats 4000000 in
theorem ownHint_any (v : Value) (hv : List (PingD × Value)) (w : World) (base : Nat) (mark : Int) (hown : OwnHint w base v hv) (hbs : base ≤ w.heap.size) (hl : hv.length ≤ 1000) (hl2 : ∀ x ∈ hv, x.1.pairs.length ≤ 1000) (hm : 0 ≤ mark ∧ mark ≤ 4611686018427387904)
    (S : Nat → Prop) (hSv : ∀ g, v.ownBlock = some g → S g) (hSx : ∀ x ∈ hv, ∀ g, x.2.ownBlock = some g → S g) :
    Calls Try.prog 51 #[.agg #[v], .int .i64 mark] w fun e w' => e = .returned (.bool true) ∧ (∃ hv', OwnHint w' base v hv') ∧ Keep S w w' := by
  obtain ⟨ao, cap, rfl⟩ := owns_slice hown.row
  go_enter Try.func51, Try.ntmps51
  go_wp2
  go_loopw [5] (fun i wr => ∃ (k : Nat) (hu : List (PingD × Value)), k ≤ hv.length ∧ i = .int .i64 k ∧ Hid (hu.length = hv.length) ∧ Hid (∀ x ∈ hu, x.1.pairs.length ≤ 1000) ∧ Hid (∀ x ∈ hu, ∀ g, x.2.ownBlock = some g → g < w.heap.size ∧ S g) ∧ Mkd mark k hu ∧ OwnHint wr base (.slice ao hv.length cap) hu ∧ wr.cell? ⟨w.heap.size, 0, none⟩ = some (.slice ao hv.length cap) ∧ Keep S w wr ∧ w.heap.size + 1 ≤ wr.heap.size)
    (fun i _ => hv.length - (intOf i).toNat)
  case atStart => exact ⟨0, hv, Nat.zero_le _, rfl, rfl, hl2, fun x hx g hg => ⟨((hown.each x hx).lt g hg).2, hSx x hx g hg⟩, fun i hi h0 => by omega, hown.alloc _, by simp, (Keep.refl _ _).alloc _, by simp⟩
  case round =>
    obtain ⟨k, hu, hk, rfl, hlen, hlp, hlo, hmk, ho, hx0, hbel, hz⟩ := hrel
    have hzl : w.heap.size < wr.heap.size := by omega
    by_cases hlt : k < hv.length
    case neg =>
      obtain ⟨wo, hwo⟩ : ∃ wo, wo = wr := ⟨_, rfl⟩
      subst hwo
      have hmk0 : Mkd mark hu.length hu := fun i hi _ => hmk i hi (by have := hlen.out; omega)
      go_wp2
      clear hmk hown
      go_loop [7] (fun i => ∃ (j : Nat), j ≤ hv.length ∧ i = .int .i64 j) (fun i => hv.length - (intOf i).toNat)
      case atStart => exact ⟨0, Nat.zero_le _, rfl⟩
      case round =>
        obtain ⟨j, hj, rfl⟩ := hrel
        by_cases hjl : j < hv.length
        case neg =>
          go_wp2
          go_ret
          exact ⟨rfl, ⟨_, ho⟩, hbel⟩
        have hju : j < hu.length := by rw [hlen.out]; exact hjl
        obtain ⟨b, rfl, hbb, c1, c2, cf⟩ := ownHint_at ho hju
        have hrow := ho.each _ (List.getElem_mem hju)
        have hpl := hlp.out _ (List.getElem_mem hju)
        have hmj := hmk0 j hju hju
        rw [hmj.1] at c1
        have hmp : Hid (∀ i, i < hu[j].1.pairs.length → preg hu[j].1.pairs i = mark + j) := hmj.2
        obtain ⟨so, sc, hsv⟩ := owns_slice hrow
        rw [hsv] at c2 hrow
        clear hmj hsv
        generalize hu[j].1.pairs = ps at *
        have hnq : (mark + (j : Int) != mark + (j : Int)) = false := by simp
        go_wp2
        go_loop [8] (fun i => ∃ (m : Nat), m ≤ ps.length ∧ i = .int .i64 m) (fun i => ps.length - (intOf i).toNat)
        case atStart => exact ⟨0, Nat.zero_le _, rfl⟩
        case round =>
          obtain ⟨m, hmn, rfl⟩ := hrel
          by_cases hml : m < ps.length
          · obtain ⟨g, rfl, hgb, d1, d2, df⟩ := owns_pairs_at hrow hml
            rw [hmp.out m hml] at d1
            go_wp2
            go_round
            case rel => exact ⟨m + 1, by omega, by go_num⟩
            case measure => simp [intOf]; omega
          · go_wp2
            go_round
            case rel => exact ⟨j + 1, by omega, by go_num⟩
            case measure => simp [intOf]; omega
    obtain ⟨wo, hwo⟩ : ∃ wo, wo = wr := ⟨_, rfl⟩
    subst hwo
    have hku : k < hu.length := by rw [hlen.out]; exact hlt
    obtain ⟨b, rfl, hbb, c1, c2, cf⟩ := ownHint_at ho hku
    have hbw : b < w.heap.size := ((hown.row).lt b rfl).2
    have cf0 := cf (k * 2)
    have ho1 := ho.setSrc hku (mark + k)
    have hmk1 := hmk.set (⟨mark + k, hu[k].1.pairs⟩, hu[k].2)
    have hlen1 : Hid ((hu.set k (⟨mark + k, hu[k].1.pairs⟩, hu[k].2)).length = hv.length) := by show List.length _ = _; rw [List.length_set]; exact hlen.out
    have hlp1 : Hid (∀ x ∈ hu.set k (⟨mark + k, hu[k].1.pairs⟩, hu[k].2), x.1.pairs.length ≤ 1000) := by
      intro x hx
      rcases List.mem_or_eq_of_mem_set hx with hx | rfl
      · exact hlp.out x hx
      · exact hlp.out hu[k] (List.getElem_mem hku)
    have hlo1 : Hid (∀ x ∈ hu.set k (⟨mark + k, hu[k].1.pairs⟩, hu[k].2), ∀ g, x.2.ownBlock = some g → g < w.heap.size ∧ S g) := by
      intro x hx
      rcases List.mem_or_eq_of_mem_set hx with hx | rfl
      · exact hlo.out x hx
      · exact hlo.out hu[k] (List.getElem_mem hku)
    have hsk : Hid (hsrc (hdat (hu.set k (⟨mark + k, hu[k].1.pairs⟩, hu[k].2))) k = mark + k) := by
      show hsrc _ _ = _
      rw [(hdat_get _ (by rw [List.length_set]; exact hku)).1, List.getElem_set_self]
    have hx1 : (wo.setCell ⟨b, k * 2, none⟩ (.int .i64 (mark + k))).cell? ⟨w.heap.size, 0, none⟩ = some (.slice (some ⟨b, 0, none⟩) hv.length cap) := cell_unset (by simp) hx0
    have hb1 := hbel.setCell (p := ⟨b, k * 2, none⟩) (.inl (hSv b rfl)) (.int .i64 (mark + k))
    have hz1 : w.heap.size + 1 ≤ (wo.setCell ⟨b, k * 2, none⟩ (.int .i64 (mark + k))).heap.size := by simpa using hz
    go_wp2
    generalize hu.set k (⟨mark + k, hu[k].1.pairs⟩, hu[k].2) = h1 at *
    generalize wo.setCell ⟨b, k * 2, none⟩ (.int .i64 (mark + k)) = w1 at *
    clear hmk hlen hlp hlo ho hx0 hbel hz hzl hku c1 c2 cf cf0 hu wo
    go_loopw [6] (fun i w2 => ∃ (j : Nat) (hu : List (PingD × Value)), j ≤ 1000 ∧ i = .int .i64 j ∧ Hid (hu.length = hv.length) ∧ Hid (∀ x ∈ hu, x.1.pairs.length ≤ 1000) ∧ Hid (∀ x ∈ hu, ∀ g, x.2.ownBlock = some g → g < w.heap.size ∧ S g) ∧ Mkd mark k hu ∧ Hid (hsrc (hdat hu) k = mark + k) ∧ Hid (j ≤ (hpairs (hdat hu) k).length ∧ ∀ i, i < j → preg (hpairs (hdat hu) k) i = mark + k) ∧
        OwnHint w2 base (.slice (some ⟨b, 0, none⟩) hv.length cap) hu ∧ w2.cell? ⟨w.heap.size, 0, none⟩ = some (.slice (some ⟨b, 0, none⟩) hv.length cap) ∧ Keep S w w2 ∧ w.heap.size + 1 ≤ w2.heap.size)
      (fun i _ => 1000 - (intOf i).toNat)
    case atStart => exact ⟨0, h1, by omega, rfl, hlen1, hlp1, hlo1, hmk1, hsk, ⟨Nat.zero_le _, fun i hi => by omega⟩, ho1, hx1, hb1, hz1⟩
    case round =>
      clear hlen1 hlp1 hlo1 hmk1 hsk ho1 hx1 hb1 hz1
      obtain ⟨j, hu, hj, rfl, hlen, hlp, hlo, hmk, hsk, hpj, ho, hx0, hbel, hz⟩ := hrel
      have hku : k < hu.length := by rw [hlen.out]; exact hlt
      have hzl : w.heap.size < wr.heap.size := by omega
      obtain ⟨b', e0, _, c1, c2, cf⟩ := ownHint_at ho hku
      simp only [Option.some.injEq, Addr.mk.injEq, and_true] at e0
      obtain rfl := e0
      have hrow := ho.each _ (List.getElem_mem hku)
      have hpl := hlp.out _ (List.getElem_mem hku)
      have hlok := hlo.out _ (List.getElem_mem hku)
      have HE : Hid (hsrc (hdat hu) k = hu[k].1.src ∧ hpairs (hdat hu) k = hu[k].1.pairs) := hdat_get hu hku
      obtain ⟨so, sc, hsv⟩ := owns_slice hrow
      have hpj' : Hid (j ≤ hu[k].1.pairs.length ∧ ∀ i, i < j → preg hu[k].1.pairs i = mark + k) := by have := hpj.out; rw [HE.out.2] at this; exact this
      have hsk' : Hid (hu[k].1.src = mark + k) := by have := hsk.out; rw [HE.out.1] at this; exact this
      have HSV : Hid (hu[k].2 = .slice so hu[k].1.pairs.length sc) := hsv
      rw [hsv] at c2
      obtain ⟨n, hn⟩ : ∃ n, n = hu[k].1.pairs.length := ⟨_, rfl⟩
      rw [← hn] at c2
      have HN : Hid (n = hu[k].1.pairs.length) := hn
      have hn1000 : n ≤ 1000 := by rw [hn]; exact hpl
      by_cases hjn : j < n
      case neg =>
        have hmk' : Mkd mark (k + 1) hu := by
          intro i hi hik
          by_cases e : i = k
          · subst e
            exact ⟨hsk'.out, fun i' hi' => hpj'.out.2 i' (by omega)⟩
          · exact hmk i hi (by omega)
        clear hsv hn hpj hsk hpj' hsk' hmk HE HSV HN hrow
        go_wp2
        go_roundw
        case rel => exact ⟨k + 1, hu, by omega, by go_num, hlen, hlp, hlo, hmk', ho, hx0, hbel, hz⟩
        case measure => simp [intOf]; omega
      have hrow2 : wr.ownsRow base 84 2 (.slice so n sc) hu[k].1.pairs.length (pairCells hu[k].1.pairs) := by rw [hsv, ← hn] at hrow; rw [← hn]; exact hrow
      obtain ⟨g, rfl, hgb, d1, d2, df⟩ := owns_pairs_at hrow2 (j := j) (by omega)
      have df0 := df (j * 2)
      have df1 := df (j * 2 + 1)
      have hgo : hu[k].2.ownBlock = some g := by rw [hsv]; rfl
      have hgw : g < w.heap.size := (hlok g hgo).1
      have hgS := (hlok g hgo).2
      have ho' := ho.setPair hku hgo (j := j) (by omega) (mark + k) 0
      have hmk' := hmk.set (⟨hu[k].1.src, hu[k].1.pairs.set j ⟨mark + k, 0⟩⟩, hu[k].2)
      have hlen' : Hid ((hu.set k (⟨hu[k].1.src, hu[k].1.pairs.set j ⟨mark + k, 0⟩⟩, hu[k].2)).length = hv.length) := by show List.length _ = _; rw [List.length_set]; exact hlen.out
      have hlp' : Hid (∀ x ∈ hu.set k (⟨hu[k].1.src, hu[k].1.pairs.set j ⟨mark + k, 0⟩⟩, hu[k].2), x.1.pairs.length ≤ 1000) := by
        intro x hx
        rcases List.mem_or_eq_of_mem_set hx with hx | rfl
        · exact hlp.out x hx
        · show List.length (List.set _ _ _) ≤ 1000
          rw [List.length_set]; exact hpl
      have hlo' : Hid (∀ x ∈ hu.set k (⟨hu[k].1.src, hu[k].1.pairs.set j ⟨mark + k, 0⟩⟩, hu[k].2), ∀ g, x.2.ownBlock = some g → g < w.heap.size ∧ S g) := by
        intro x hx
        rcases List.mem_or_eq_of_mem_set hx with hx | rfl
        · exact hlo.out x hx
        · exact hlok
      have hq := hdat_get (hu.set k (⟨hu[k].1.src, hu[k].1.pairs.set j ⟨mark + k, 0⟩⟩, hu[k].2)) (i := k) (by rw [List.length_set]; exact hku)
      rw [List.getElem_set_self] at hq
      have hsk2 : Hid (hsrc (hdat (hu.set k (⟨hu[k].1.src, hu[k].1.pairs.set j ⟨mark + k, 0⟩⟩, hu[k].2))) k = mark + k) := by show hsrc _ _ = _; rw [hq.1]; exact hsk'.out
      have hpj2 : Hid (j + 1 ≤ (hpairs (hdat (hu.set k (⟨hu[k].1.src, hu[k].1.pairs.set j ⟨mark + k, 0⟩⟩, hu[k].2))) k).length ∧ ∀ i, i < j + 1 → preg (hpairs (hdat (hu.set k (⟨hu[k].1.src, hu[k].1.pairs.set j ⟨mark + k, 0⟩⟩, hu[k].2))) k) i = mark + k) := by
        show _ ∧ _
        rw [hq.2]
        refine ⟨by simp only [List.length_set]; omega, fun i hi => ?_⟩
        by_cases e : i = j
        · subst e
          simp [preg, List.getD, show i < hu[k].1.pairs.length by omega]
        · have := hpj'.out.2 i (by omega)
          simp only [preg, List.getD, List.getElem?_set_ne (fun h => e h.symm)] at this ⊢
          exact this
      have hx1 : ∀ u u', ((wr.setCell ⟨g, j * 2, none⟩ u).setCell ⟨g, j * 2 + 1, none⟩ u').cell? ⟨w.heap.size, 0, none⟩ = some (.slice (some ⟨b, 0, none⟩) hv.length cap) := fun u u' => cell_unset (by simp) (cell_unset (by simp) hx0)
      have hb1 := (hbel.setCell (p := ⟨g, j * 2, none⟩) (.inl hgS) (.int .i64 (mark + k))).setCell (p := ⟨g, j * 2 + 1, none⟩) (.inl hgS) (.int .i64 0)
      generalize hu.set k (⟨hu[k].1.src, hu[k].1.pairs.set j ⟨mark + k, 0⟩⟩, hu[k].2) = h2 at *
      clear hsv hn hpj hsk hpj' hsk' hmk HE HSV HN hrow hrow2 hq ho hlen hlp hlo
      go_wp2
      go_roundw
      case rel => exact ⟨j + 1, h2, by omega, by go_num, hlen', hlp', hlo', hmk', hsk2, hpj2, ho', hx1 _ _, hb1, by simpa using hz⟩
      case measure => simp [intOf]; omega

end Go.Proofs.Ytdjdjkgoelbbdaa

/- The law on hints. -/
set_option linter.unusedSimpArgs false
set_option linter.unusedVariables false
namespace Go.Proofs.Ytdjdjkgoelbbdaa
open Go.RowKit

theorem toList_self (a : ByteArray) : (a.toList == a.toList) = true := by simp

set_option maxRecDepth 100000 in
set_option maxHeartbeats 2000000 in
theorem hinted_any (u : Value) (h : List PingD) (w : World) (hr : RdHint w u h) (hn : h.length ≤ 4398046511104) (hn2 : ∀ k, k < h.length → (hpairs h k).length ≤ 8796093022208) :
    Calls Try.prog 12 #[.agg #[u]] w fun e w' => e = .returned (.bool true) ∧ Below w.heap.size w w' := by
  obtain ⟨uo, uc, e0, _, _⟩ := id hr
  subst e0
  have hr1 := hr.keep ((Below.refl w.heap.size w).alloc (Nat.le_refl _) (.cells #[.slice uo h.length uc] 31))
  go_enter Try.func12, Try.ntmps12
  go_wp2_with fail
  refine roomyHint_cps _ h _ hr1 hn hn2 _ ?_
  intro w1 hv L D hdt hlies hL hD hb1
  have hb1' : Below (w.heap.size + 1) (w.alloc (.cells #[.slice uo h.length uc] 31)) w1 := by simpa using hb1
  have hz1 := hb1'.size
  simp at hz1
  have hb01 := Below.under hb1'
  have x0 : w1.cell? ⟨w.heap.size, 0, none⟩ = some (.slice uo h.length uc) := (hb1'.cell (by simp)).trans (by simp)
  have hvl : hv.length = h.length := by rw [← hdt, hdat_length]
  have n2 : ∀ x ∈ hv, x.1.pairs.length ≤ 8796093022208 := by
    intro x hx
    obtain ⟨k, hk, rfl⟩ := List.getElem_of_mem hx
    have := hn2 k (by omega)
    rw [← hdt, (hdat_get hv hk).2] at this
    exact this
  have hLlt := hL.lt
  have HV : Hid (hv.length = h.length) := hvl
  have rg := rows_rd (cap := hv.length + 1) hlies hL (by omega) (fun x hx => by have := n2 x hx; omega)
  rw [hdt] at rg
  have HD : Hid (hdat hv = h) := hdt
  clear hb1 hvl hdt
  have hzl : w.heap.size < w1.heap.size := by omega
  -- EncodeHint
  have hc := tEncodeHint_any _ h (w1.alloc (.cells #[.slice (some ⟨L, 0, none⟩) hv.length (hv.length + 1)] 31)) (rg.keep ((Below.refl _ _).alloc (Nat.le_refl _) _))
  go_wp2_with fail
  refine hc.mono ?_
  clear hc
  rintro e w2 ⟨rfl, hb2⟩
  have hb2' : Below (w1.heap.size + 1) (w1.alloc (.cells #[.slice (some ⟨L, 0, none⟩) hv.length (hv.length + 1)] 31)) w2 := by simpa using hb2
  have hb12 := Below.under hb2'
  have hz2 := hb2'.size
  simp at hz2
  have y0 := cell_keep hb12 x0
  have y1 : w2.cell? ⟨w1.heap.size, 0, none⟩ = some (.slice (some ⟨L, 0, none⟩) hv.length (hv.length + 1)) := (hb2'.cell (by simp)).trans (by simp)
  have hb02 := hb01.trans (hb12.mono (by omega))
  have hu2 := hr.keep hb02
  have hu2' : RdHint w2 (.slice uo h.length uc) (hdat hv) := by rw [HD.out]; exact hu2
  have hw := wholeHint_any hv L D _ w2 (hlies.keep hb12) (hL.keep hb12) (hD.keep hb12) hu2' (by rw [HV.out]; exact hn) n2
  clear hb2 hb2'
  cases hg : goodHint h
  · simp only [Bool.false_eq_true, if_false]
    go_wp2_with fail
    refine hw.mono ?_
    clear hw
    rintro e w3 ⟨rfl, hb3⟩
    have z0 := cell_keep hb3 y0
    have hb03 := hb02.trans (hb3.mono (by omega))
    have hz3 := hb3.size
    go_wp2_with fail
    refine (rGoodHint_any _ h _ (hr.keep hb03)).mono ?_
    rintro e w4 ⟨rfl, hb4⟩
    have hb04 := hb03.trans (hb4.mono (by omega))
    clear hlies hL hD rg hu2 hu2'
    go_wp2
    go_ret
    exact ⟨by simp, hb04⟩
  · simp only [if_true]
    go_wp2_with fail
    refine hw.mono ?_
    clear hw
    rintro e w3 ⟨rfl, hb3⟩
    have z0 := cell_keep hb3 y0
    have hb03 := hb02.trans (hb3.mono (by omega))
    have hz3 := hb3.size
    go_wp2_with fail
    refine (rGoodHint_any _ h _ (hr.keep hb03)).mono ?_
    rintro e w4 ⟨rfl, hb4⟩
    have hb04 := hb03.trans (hb4.mono (by omega))
    have t0 := cell_keep hb4 z0
    have hz4 := hb4.size
    clear hlies hL hD rg hu2 hu2'
    go_wp2_with fail
    refine (rHintText_any _ h _ (hr.keep hb04) hg).mono ?_
    rintro e w5 ⟨rfl, hb5⟩
    have hb05 := hb04.trans (hb5.mono (by omega))
    have hs := toList_self (str (hintText h))
    go_wp2
    go_ret
    exact ⟨by simp, hb05⟩

end Go.Proofs.Ytdjdjkgoelbbdaa
