/- twinkeep.Idle: work that nobody asks for may be put in, and may be left out. -/
import Derived.Test.YtblhmeidbjigaabGreatDoorRows
import Derived.WalkKit
import Derived.WalkSpells
import Derived.WalkLawsBesides
import Derived.Laws.BytesArg
import Derived.Deep.QuietTactic
import Derived.BigQuiet
import Derived.Deep.RegionHeld3
import Derived.Lib.ItoaNum
import Derived.Lib.ItoaLen
import Derived.OpenShut
import Derived.Maps.AppendAt
import Derived.StillTailTactics
import Derived.Shelf.Strconv.Itoa3
import Derived.Shelf.Lay
import Derived.Ground.NamesProg
import Derived.Lib.SmallJoins
import Derived.Lib.Hide
import Derived.Deep.RegionLaw
import Derived.BigRegion
import Derived.Deep.AppendLies
import Derived.ProofKit
import Derived.SizedLaws
import Derived.Deep.Slices
import Derived.Test.YtblhmeidbjigaabGreatDoorKOp2ToKIdlPIdle

set_option linter.unusedSimpArgs false
set_option linter.unusedVariables false
namespace Go.Proofs.YtblhmeidbjigaabGreatDoor
open Go.RowKit Go.Deep

set_option maxRecDepth 100000 in
set_option maxHeartbeats 1500000 in
theorem idle_cps (ao : Option Addr) (rn cap : Nat) (so : Option Addr) (sn sc : Nat) (w : World) (hraw : RdInts w (.slice ao rn cap) rn) (hsw : RdInts w (.slice so sn sc) sn) (htab : TabW w) (Post : Ending → World → Prop)
    (hp : ∀ w', Below w.heap.size w w' → Post (.returned (.bool true)) w') :
    Calls Tryz.prog 4 #[.slice ao rn cap, .slice so sn sc] w Post := by
  obtain ⟨k0, ki, kz0, kz1, kz2⟩ := info_parts Tryz.infoOp
  have q1 := fun P' => built_cps ao rn cap 1 7 5 w (by omega) (by omega) (by omega) hraw P'
  have HP := Lib.hid hp
  clear hp
  go_enter Tryz.func4, Tryz.ntmps4
  go_wp2_with fail
  refine q1 _ ?_
  intro a0 a1 a2 v bv w1 gp hl1 hl2 hops ho hb1
  obtain ⟨R, rfl⟩ : ∃ R : Nat, a1 = (R : Int) := ⟨a1.toNat, by omega⟩
  obtain ⟨bo, bc, rfl⟩ := owns_slice ho.row
  have hlen6 : 1 ≤ bv.length ∧ bv.length ≤ 6 := by
    have := progGood_len gp
    simpa [bdat_length] using this
  obtain ⟨n, hn⟩ : ∃ n, n = bv.length := ⟨_, rfl⟩
  obtain ⟨l0, hl0⟩ : ∃ l0, l0 = bdat bv := ⟨_, rfl⟩
  have hln : n = l0.length := by rw [hl0, bdat_length, hn]
  have hrd := OwnBlocks.rd ho
  have sp := bdat_ops hops
  rw [← hl0] at hrd gp sp
  rw [← hn] at hrd hlen6 ⊢
  have HLN := Lib.hid hln
  obtain ⟨wc, hwc⟩ : ∃ x, x = w1.alloc (.cells #[.int .i64 a0, .int .i64 (R : Int), .int .i64 a2, .int .i64 0, .slice bo n bc] 25) := ⟨_, rfl⟩
  have b1c : Below w1.heap.size w1 wc := by subst hwc; exact (Below.refl _ _).alloc (Nat.le_refl _) _
  have rP : Row wc w1.heap.size 25 [.int .i64 a0, .int .i64 (R : Int), .int .i64 a2, .int .i64 0, .slice bo n bc] := by subst hwc; exact heap_alloc_new w1 _
  have bwc : Below w.heap.size w wc := hb1.trans (b1c.mono hb1.size)
  have rdc := hrd.keep b1c
  have q2 := fun P' => clone_cps a0 (R : Int) a2 0 bo bc l0 wc (by rw [← hln]; exact rdc) (by omega) (fun b hb => by have := sp b hb; omega) P'
  rw [← hln] at q2
  rw [hwc] at q2
  have HWC := Lib.hid hwc
  have HRP := Lib.hid rP
  have HBW := Lib.hid bwc
  have HRD := Lib.hid rdc
  have HG := Lib.hid gp
  have HSP := Lib.hid sp
  have HTB := Lib.hid htab
  have HSW := Lib.hid hsw
  clear q1 ho hops hb1 hrd hn hl0 hln b1c rP bwc rdc hwc gp sp htab hraw hsw
  go_wp2_with fail
  refine q2 _ ?_
  intro v qv w2 hd hoq hb2
  obtain ⟨qo, qc, hv⟩ := owns_slice hoq.row
  have hqn : qv.length = n := by
    have := congrArg List.length hd.out
    rw [bdat_length] at this
    rw [this, ← HLN.out]
  rw [hqn] at hv
  subst hv
  rw [← HWC.out] at hb2 hoq
  obtain ⟨qg, hqo, hjunk⟩ := ownBlocks_at hoq (i := 0) (by omega)
  clear hjunk
  subst hqo
  have hadd : IntKind.i64.wrap ((R : Int) + 1) = (R : Int) + 1 := by rw [IntKind.wrap_i64]; omega
  have px1 : ∀ o, (w2.alloc o).cell? ⟨w1.heap.size, 1, none⟩ = some (.int .i64 (R : Int)) := fun o => ((HRP.out.keep hb2).alloc o).cell (i := 1) rfl
  have hwl : w1.heap.size < w2.heap.size := (HRP.out.keep hb2).lt
  obtain ⟨w4, hw4⟩ : ∃ x, x = (w2.alloc (.cells #[.int .i64 a0, .int .i64 ((R : Int) + 1), .int .i64 a2, .int .i64 0, .slice (some ⟨qg, 0, none⟩) n qc] 25)).alloc (.cells #[.slice so sn sc, .int .i64 0] 47) := ⟨_, rfl⟩
  have b24 : Below w2.heap.size w2 w4 := by subst hw4; exact ((Below.refl _ _).alloc (Nat.le_refl _) _).alloc (by simp) _
  have rQ4 : Row w4 w2.heap.size 25 [.int .i64 a0, .int .i64 ((R : Int) + 1), .int .i64 a2, .int .i64 0, .slice (some ⟨qg, 0, none⟩) n qc] := by subst hw4; exact Row.alloc (heap_alloc_new w2 _) _
  have rR4 : Row w4 (w2.heap.size + 1) 47 [.slice so sn sc, .int .i64 0] := by subst hw4; exact heap_alloc2_new w2 _ _
  have bw4 : Below w.heap.size w w4 := HBW.out.trans ((hb2.trans (b24.mono hb2.size)).mono HBW.out.size)
  have S4 : IdSt wc w4 w2.heap.size a0 R a2 l0 qg n qc so sn sc 0 0 qv :=
    ⟨hqn, by rw [hd.out]; exact IdlOk.refl HG.out, fun b hb => by
        rw [hd.out]
        have := HSP.out b (by rw [← HLN.out]; exact hb)
        split <;> (try split) <;> omega, rQ4, hoq.below b24 (Nat.le_refl _), ⟨0, Rolls.fresh HSW.out bw4 rR4 (by have := HBW.out.size; have := hb2.size; omega)⟩, hb2.trans (b24.mono hb2.size), hb2.size⟩
  have hwcQ : wc.heap.size ≤ w2.heap.size := hb2.size
  have hqgQ : qg < w2.heap.size := by
    have := (hoq.row.lt qg rfl).2
    exact this
  have hqgB : wc.heap.size ≤ qg := (hoq.row.lt qg rfl).1
  have HS4 := Lib.hid S4
  have HW4 := Lib.hid hw4
  clear q2 hd hoq hb2 hqn hw4 b24 S4 rQ4 rR4 bw4
  go_wp2
  rw [← HW4.out]
  clear HW4 px1
  have hwl2 : w1.heap.size < wc.heap.size := HRP.out.lt
  clear hwl
  generalize w2.heap.size = Qb at *
  go_loopw [8] (fun i wr => ∃ (j : Nat) (qv : List (BlockD × Value)), j ≤ n ∧ i = .int .i64 j ∧ IdSt wc wr Qb a0 R a2 l0 qg n qc so sn sc j 0 qv)
    (fun i _ => n - (intOf i).toNat)
  case atStart => exact ⟨0, qv, by omega, rfl, HS4.out⟩
  case round =>
    clear HS4
    rename World => wo
    obtain ⟨j, qv, hj, rfl, S⟩ := hrel
    have z4 := S.rowQ.cell (i := 4) rfl
    by_cases hlt : j < n
    · obtain ⟨rk, hro⟩ := S.rolls
      have q3 := fun P' => next_cps (Qb + 1) so sn sc rk 3 wo hro (by omega) P'
      have HS := Lib.hid S
      clear S hro
      go_wp2_with fail
      refine q3 _ ?_
      intro x rk1 w5 hx0 hx1 hr5 hk5 hz5
      have S5 := HS.out.roll hr5 hk5
      obtain ⟨m, rfl⟩ : ∃ m : Nat, x = (m : Int) := ⟨x.toNat, by omega⟩
      have HS5 := Lib.hid S5
      clear q3 HS hr5 hk5 hz5 S5 z4
      go_wp2
      go_loopw [10] (fun i wr => ∃ (k : Nat) (qv : List (BlockD × Value)), k ≤ m ∧ i = .int .i64 k ∧ IdSt wc wr Qb a0 R a2 l0 qg n qc so sn sc j k qv)
        (fun i _ => m - (intOf i).toNat)
      case atStart => exact ⟨0, qv, by omega, rfl, HS5.out⟩
      case round =>
        clear HS5 qv
        rename World => wi
        obtain ⟨k, qv, hk, rfl, S⟩ := hrel
        by_cases hkm : k < m
        · have hbq : j < qv.length := by rw [S.len]; exact hlt
          have hbl : j < l0.length := by rw [← HLN.out]; exact hlt
          obtain ⟨qg', eqg, _, cq0, _⟩ := ownBlocks_at S.ownQ hbq
          simp only [Option.some.injEq, Addr.mk.injEq, and_true] at eqg
          subst eqg
          have hrow := S.ownQ.each _ (List.getElem_mem hbq)
          obtain ⟨ops, hopse⟩ : ∃ ops, ops = qv[j].1.ops := ⟨_, rfl⟩
          have HOPS : Hid (ops = qv[j].1.ops) := hopse
          have hopl : ops.length ≤ 6 := by
            have := S.lim j hlt
            rw [if_neg (by omega), if_pos rfl, (bdat_get qv hbq).1, ← hopse] at this
            omega
          rw [← hopse] at hrow
          obtain ⟨uo, uc, hsv⟩ := owns_slice hrow
          rw [hsv] at cq0
          obtain ⟨on, hon⟩ : ∃ on, on = ops.length := ⟨_, rfl⟩
          have HON := Lib.hid hon
          have HSV := Lib.hid hsv
          rw [← hon] at cq0 hopl
          have z4 := S.rowQ.cell (i := 4) rfl
          have hji : (0 : Int) ≤ (j : Int) := by omega
          have hjn : (j : Int) < (n : Int) := by omega
          have hwon : IntKind.i64.wrap ((on : Int) + 1) = (on : Int) + 1 := by rw [IntKind.wrap_i64]; omega
          obtain ⟨rk, hro⟩ := S.rolls
          have q3 := fun P' => next_cps (Qb + 1) so sn sc rk ((on : Int) + 1) wi hro (by omega) P'
          have HS := Lib.hid S
          clear S hro hrow hopse hon hsv
          go_wp2_with fail
          refine q3 _ ?_
          intro x rk1 w5 hx0' hx1' hr5 hk5 hz5
          obtain ⟨t, rfl⟩ : ∃ t : Nat, x = (t : Int) := ⟨x.toNat, by omega⟩
          have S5 := HS.out.roll hr5 hk5
          have z1 := S5.rowQ.cell (i := 1) rfl
          have q4 := fun P' => op2_cps (Qb + 1) so sn sc rk1 10 ((R : Int) + 1) 0 w5 hr5 (by omega) (by omega) (by omega) (.inl (by omega)) P'
          have HS5 := Lib.hid S5
          clear q3 HS hr5 hk5 hz5 S5 z4 cq0
          go_wp2_with fail
          refine q4 _ ?_
          intro oa ob oc od rk2 w6 hg6 ha6 hr6 hk6
          have S6 := HS5.out.roll hr6 hk6
          obtain ⟨w7, hw7⟩ : ∃ x, x = w6.alloc (.cells #[.int .i64 oa, .int .i64 (R : Int), .int .i64 oc, .int .i64 od] 36) := ⟨_, rfl⟩
          have b67 : Below w6.heap.size w6 w7 := by subst hw7; exact (Below.refl _ _).alloc (Nat.le_refl _) _
          have S7 := S6.keep b67
          have rO7 : Row w7 w6.heap.size 36 [.int .i64 oa, .int .i64 (R : Int), .int .i64 oc, .int .i64 od] := by subst hw7; exact heap_alloc_new w6 _
          have px : ∀ o, (w6.alloc o).cell? ⟨w1.heap.size, 1, none⟩ = some (.int .i64 (R : Int)) := fun o => ((HRP.out.keep S6.below).alloc o).cell (i := 1) rfl
          have hw16 : w1.heap.size < w6.heap.size := (HRP.out.keep S6.below).lt
          obtain ⟨hgj, hjk⟩ := opGood_junk (show 1 ≤ (R : Int) by omega) hg6 ha6
          have hz7 : w6.heap.size < w7.heap.size := rO7.lt
          have hrow7 := S7.ownQ.each _ (List.getElem_mem hbq)
          rw [← HOPS.out, HSV.out] at hrow7
          obtain ⟨qg', eqg, _, cq7, _⟩ := ownBlocks_at S7.ownQ hbq
          simp only [Option.some.injEq, Addr.mk.injEq, and_true] at eqg
          subst eqg
          rw [HSV.out, ← HON.out] at cq7
          have z47 := S7.rowQ.cell (i := 4) rfl
          have HS7 := Lib.hid S7
          have HJ : Hid (opGood ((R : Int) + 1) 0 ⟨oa, R, oc, od⟩ = true ∧ junkAt R ⟨oa, R, oc, od⟩) := ⟨hgj, hjk⟩
          have hrow7 := Lib.hid hrow7
          have HW7 := Lib.hid hw7
          rw [hw7] at cq7 z47
          clear q4 HS5 hr6 hk6 S6 S7 hg6 ha6 hw7 b67 hgj hjk z1
          have htl : t ≤ ops.length := by rw [← HON.out]; omega
          have hcap7 : on ≤ uc := by
            rcases hrow7.out.2 with ⟨e0, e1⟩ | ⟨g, cp, cur, e0, _, _, e1, _⟩
            · simp only [Value.slice.injEq] at e0; have := HON.out; omega
            · simp only [Value.slice.injEq] at e0; have := HON.out; omega
          have htc : t ≤ uc := by omega
          cases uo with
          | none =>
            have h00 : on = 0 ∧ uc = 0 := by
              rcases hrow7.out.2 with ⟨e0, e1⟩ | ⟨g, cp, cur, e0, _⟩
              · simp only [Value.slice.injEq] at e0; have := HON.out; omega
              · simp at e0
            obtain ⟨e00, e01⟩ := h00
            subst e00
            subst e01
            have e02 : t = 0 := by omega
            subst e02
            have hn0 : ops = [] := List.eq_nil_of_length_eq_zero HON.out.symm
            have hnil : ∀ W, SrcRow W 4 (.slice none 0 0) 0 (opCells (ops.take 0)) := fun W => ⟨rfl, ops_oneCell _, .inl ⟨rfl, rfl⟩⟩
            have hnil2 : ∀ W, SrcRow W 4 (.slice none 0 0) 0 (opCells (ops.drop 0)) := fun W => ⟨by rw [hn0]; rfl, ops_oneCell _, .inl ⟨rfl, rfl⟩⟩
            have HN0 := Lib.hid hn0
            clear hn0
            have hsA := hnil w7
            rw [HW7.out] at hsA
            go_wp2_with (at_builtin; refine wpList_append_any _ rfl _ _ 34 rfl w7.heap.size 36 k0 (.agg #[.int .i64 0, .int .i64 0, .int .i64 0, .int .i64 0]) 4 32 Tryz.underlying34 ki kz0 kz1 kz2 rfl (by decide) _ _ _ rfl (World.ownsRow_nil _ _ _ _) _ _ _ rfl hsA ?g3 ?g4 ?g5 ?_)
            try (case g3 => unfold maxLen; omega)
            try (case g4 => omega)
            try (case g5 => rw [HW7.out]; exact Nat.le_refl _)
            rw [← HW7.out]
            intro v8 w8 hown8 hgrow8
            try simp only [Nat.zero_add, List.nil_append] at hown8
            have b8 := (Below.refl w7.heap.size w7).grown hgrow8 (Nat.le_refl _) (fun g hg => by simp [Value.ownBlock] at hg)
            have rO8 := rO7.keep b8
            have hz8 := b8.size
            obtain ⟨lo8, lc8, rfl⟩ := owns_slice hown8
            have o0 := rO8.cell (i := 0) rfl
            have o1 := rO8.cell (i := 1) rfl
            have o2 := rO8.cell (i := 2) rfl
            have o3 := rO8.cell (i := 3) rfl
            clear hsA hgrow8 cq7 z47 rO7 px hrow7
            go_wp2_with (at_builtin; refine wpList_append_own _ rfl _ _ 34 rfl w7.heap.size 36 k0 (.agg #[.int .i64 0, .int .i64 0, .int .i64 0, .int .i64 0]) 4 32 Tryz.underlying34 ki kz0 kz1 kz2 rfl (by decide) _ _ _ rfl (hown8.alloc _) ⟨w8.heap.size, 0, none⟩ 1 1 [.int .i64 oa, .int .i64 (R : Int), .int .i64 oc, .int .i64 od] rfl rfl ?e1 four_one ?e3 ?e4 ?e5 ?_)
            try (case e1 => simpa using four_new w8 _ _ _ _ _)
            try (case e3 => unfold maxLen; omega)
            try (case e4 => omega)
            try (case e5 => first | omega | (simp; omega))
            intro v9 w9 hown9 hgrow9 _
            have b9 := (b8.alloc hz8 (.cells #[.int .i64 oa, .int .i64 (R : Int), .int .i64 oc, .int .i64 od] 36)).grown hgrow9 (by simp; omega) (fun g hg => (hown8.lt g hg).1)
            have hz9 := b9.size
            obtain ⟨lo9, lc9, rfl⟩ := owns_slice hown9
            have S9 := HS7.out.keep b9
            have hrow9 := S9.ownQ.each _ (List.getElem_mem hbq)
            rw [← HOPS.out, HSV.out] at hrow9
            have hsB := hnil2 w9
            obtain ⟨qg', eqg, _, cq9, _⟩ := ownBlocks_at S9.ownQ hbq
            simp only [Option.some.injEq, Addr.mk.injEq, and_true] at eqg
            subst eqg
            rw [HSV.out, ← HON.out] at cq9
            have z49 := S9.rowQ.cell (i := 4) rfl
            clear S9 hrow9 hgrow9 hown8 rO8 o0 o1 o2 o3
            go_wp2_with (at_builtin; refine wpList_append_any _ rfl _ _ 34 rfl w7.heap.size 36 k0 (.agg #[.int .i64 0, .int .i64 0, .int .i64 0, .int .i64 0]) 4 32 Tryz.underlying34 ki kz0 kz1 kz2 rfl (by decide) _ _ _ rfl hown9 _ _ _ rfl hsB ?m3 ?m4 ?m5 ?_)
            try (case m3 => unfold maxLen; omega)
            try (case m4 => omega)
            try (case m5 => exact hz9)
            intro v10 w10 hown10 hgrow10
            have b10 := b9.grown hgrow10 hz9 (fun g hg => (hown9.lt g hg).1)
            have e10 : opCells (ops.take 0 ++ ⟨oa, R, oc, od⟩ :: ops.drop 0) = opCells (ops.take 0) ++ [.int .i64 oa, .int .i64 (R : Int), .int .i64 oc, .int .i64 od] ++ opCells (ops.drop 0) := by simp [opCells_append, opCells]
            have l10 : (ops.take 0 ++ (⟨oa, R, oc, od⟩ : OpD) :: ops.drop 0).length = 0 + 1 := by rw [List.length_append, List.length_cons, List.length_take, List.length_drop]; have := HON.out; omega
            have lown : w10.ownsRow w7.heap.size 36 4 v10 (ops.take 0 ++ ⟨oa, R, oc, od⟩ :: ops.drop 0).length (opCells (ops.take 0 ++ ⟨oa, R, oc, od⟩ :: ops.drop 0)) := by
              rw [e10, l10]; first | exact hown10 | simpa using hown10
            have S10 := HS7.out.keep b10
            obtain ⟨qg', eqg, _, cq10, _, _, _, _, cqf⟩ := ownBlocks_at S10.ownQ hbq
            simp only [Option.some.injEq, Addr.mk.injEq, and_true] at eqg
            subst eqg
            rw [HSV.out, ← HON.out] at cq10
            have z410 := S10.rowQ.cell (i := 4) rfl
            have cqf0 := cqf (j * 5)
            rw [HOPS.out] at lown
            have SF := HS7.out.put hlt hbq hbl b10 hqgQ hqgB HSW.out HBW.out.size HJ.out.2 HJ.out.1 0 lown
            obtain ⟨lo10, lc10, hv10⟩ := owns_slice hown10
            subst hv10
            have HSF := Lib.hid SF
            clear S10 SF lown e10 l10 hgrow10 hown10 hown9 hsB cq9 z49 HS7 HJ cqf b8 b9 b10
            go_wp2
            go_roundw
            case rel => exact ⟨k + 1, _, by omega, by go_num, HSF.out⟩
            case measure => simp [intOf]; omega
          | some ua =>
            obtain ⟨g, rfl⟩ : ∃ g, ua = ⟨g, 0, none⟩ := by
              rcases hrow7.out.2 with ⟨e0, e1⟩ | ⟨g, cp, cur, e0, _⟩
              · simp at e0
              · simp only [Value.slice.injEq, Option.some.injEq] at e0; exact ⟨g, e0.1⟩
            by_cases huc : uc = t
            · subst huc
              have e00 : uc = on := by omega
              subst e00
              have hdr : ops.drop uc = [] := List.drop_eq_nil_of_le (by rw [← HON.out]; exact Nat.le_refl _)
              have hfull : ∀ W, SrcRow W 4 (.slice (some ⟨g, 0, none⟩) 0 0) 0 (opCells (ops.drop uc)) := fun W => by
                rw [hdr]
                exact ⟨rfl, (fun u hu => by cases hu), .inr ⟨_, _, rfl, (fun j u hu => by simp [opCells] at hu)⟩⟩
              clear hdr
              have hsA := src_take hrow7.out uc uc htl
              rw [HW7.out] at hsA
              go_wp2_with (at_builtin; refine wpList_append_any _ rfl _ _ 34 rfl w7.heap.size 36 k0 (.agg #[.int .i64 0, .int .i64 0, .int .i64 0, .int .i64 0]) 4 32 Tryz.underlying34 ki kz0 kz1 kz2 rfl (by decide) _ _ _ rfl (World.ownsRow_nil _ _ _ _) _ _ _ rfl hsA ?g3 ?g4 ?g5 ?_)
              try (case g3 => unfold maxLen; omega)
              try (case g4 => omega)
              try (case g5 => rw [HW7.out]; exact Nat.le_refl _)
              rw [← HW7.out]
              intro v8 w8 hown8 hgrow8
              try simp only [Nat.zero_add, List.nil_append] at hown8
              have b8 := (Below.refl w7.heap.size w7).grown hgrow8 (Nat.le_refl _) (fun g hg => by simp [Value.ownBlock] at hg)
              have rO8 := rO7.keep b8
              have hz8 := b8.size
              obtain ⟨lo8, lc8, rfl⟩ := owns_slice hown8
              have o0 := rO8.cell (i := 0) rfl
              have o1 := rO8.cell (i := 1) rfl
              have o2 := rO8.cell (i := 2) rfl
              have o3 := rO8.cell (i := 3) rfl
              clear hsA hgrow8 cq7 z47 rO7 px hrow7
              go_wp2_with (at_builtin; refine wpList_append_own _ rfl _ _ 34 rfl w7.heap.size 36 k0 (.agg #[.int .i64 0, .int .i64 0, .int .i64 0, .int .i64 0]) 4 32 Tryz.underlying34 ki kz0 kz1 kz2 rfl (by decide) _ _ _ rfl (hown8.alloc _) ⟨w8.heap.size, 0, none⟩ 1 1 [.int .i64 oa, .int .i64 (R : Int), .int .i64 oc, .int .i64 od] rfl rfl ?e1 four_one ?e3 ?e4 ?e5 ?_)
              try (case e1 => simpa using four_new w8 _ _ _ _ _)
              try (case e3 => unfold maxLen; omega)
              try (case e4 => omega)
              try (case e5 => first | omega | (simp; omega))
              intro v9 w9 hown9 hgrow9 _
              have b9 := (b8.alloc hz8 (.cells #[.int .i64 oa, .int .i64 (R : Int), .int .i64 oc, .int .i64 od] 36)).grown hgrow9 (by simp; omega) (fun g hg => (hown8.lt g hg).1)
              have hz9 := b9.size
              obtain ⟨lo9, lc9, rfl⟩ := owns_slice hown9
              have S9 := HS7.out.keep b9
              have hrow9 := S9.ownQ.each _ (List.getElem_mem hbq)
              rw [← HOPS.out, HSV.out] at hrow9
              have hsB := hfull w9
              obtain ⟨qg', eqg, _, cq9, _⟩ := ownBlocks_at S9.ownQ hbq
              simp only [Option.some.injEq, Addr.mk.injEq, and_true] at eqg
              subst eqg
              rw [HSV.out, ← HON.out] at cq9
              have z49 := S9.rowQ.cell (i := 4) rfl
              clear S9 hrow9 hgrow9 hown8 rO8 o0 o1 o2 o3
              go_wp2_with (at_builtin; refine wpList_append_any _ rfl _ _ 34 rfl w7.heap.size 36 k0 (.agg #[.int .i64 0, .int .i64 0, .int .i64 0, .int .i64 0]) 4 32 Tryz.underlying34 ki kz0 kz1 kz2 rfl (by decide) _ _ _ rfl hown9 _ _ _ rfl hsB ?m3 ?m4 ?m5 ?_)
              try (case m3 => unfold maxLen; omega)
              try (case m4 => omega)
              try (case m5 => exact hz9)
              intro v10 w10 hown10 hgrow10
              have b10 := b9.grown hgrow10 hz9 (fun g hg => (hown9.lt g hg).1)
              have e10 : opCells (ops.take uc ++ ⟨oa, R, oc, od⟩ :: ops.drop uc) = opCells (ops.take uc) ++ [.int .i64 oa, .int .i64 (R : Int), .int .i64 oc, .int .i64 od] ++ opCells (ops.drop uc) := by simp [opCells_append, opCells]
              have l10 : (ops.take uc ++ (⟨oa, R, oc, od⟩ : OpD) :: ops.drop uc).length = uc + 1 := by rw [List.length_append, List.length_cons, List.length_take, List.length_drop]; have := HON.out; omega
              have lown : w10.ownsRow w7.heap.size 36 4 v10 (ops.take uc ++ ⟨oa, R, oc, od⟩ :: ops.drop uc).length (opCells (ops.take uc ++ ⟨oa, R, oc, od⟩ :: ops.drop uc)) := by
                rw [e10, l10]; first | exact hown10 | simpa using hown10
              have S10 := HS7.out.keep b10
              obtain ⟨qg', eqg, _, cq10, _, _, _, _, cqf⟩ := ownBlocks_at S10.ownQ hbq
              simp only [Option.some.injEq, Addr.mk.injEq, and_true] at eqg
              subst eqg
              rw [HSV.out, ← HON.out] at cq10
              have z410 := S10.rowQ.cell (i := 4) rfl
              have cqf0 := cqf (j * 5)
              rw [HOPS.out] at lown
              have SF := HS7.out.put hlt hbq hbl b10 hqgQ hqgB HSW.out HBW.out.size HJ.out.2 HJ.out.1 uc lown
              obtain ⟨lo10, lc10, hv10⟩ := owns_slice hown10
              subst hv10
              have HSF := Lib.hid SF
              clear S10 SF lown e10 l10 hgrow10 hown10 hown9 hsB cq9 z49 HS7 HJ cqf b8 b9 b10
              go_wp2
              go_roundw
              case rel => exact ⟨k + 1, _, by omega, by go_num, HSF.out⟩
              case measure => simp [intOf]; omega
            · have huc2 : ¬ (uc - t = 0) := by omega
              have hsA := src_take hrow7.out t uc htl
              rw [HW7.out] at hsA
              go_wp2_with (at_builtin; refine wpList_append_any _ rfl _ _ 34 rfl w7.heap.size 36 k0 (.agg #[.int .i64 0, .int .i64 0, .int .i64 0, .int .i64 0]) 4 32 Tryz.underlying34 ki kz0 kz1 kz2 rfl (by decide) _ _ _ rfl (World.ownsRow_nil _ _ _ _) _ _ _ rfl hsA ?g3 ?g4 ?g5 ?_)
              try (case g3 => unfold maxLen; omega)
              try (case g4 => omega)
              try (case g5 => rw [HW7.out]; exact Nat.le_refl _)
              rw [← HW7.out]
              intro v8 w8 hown8 hgrow8
              try simp only [Nat.zero_add, List.nil_append] at hown8
              have b8 := (Below.refl w7.heap.size w7).grown hgrow8 (Nat.le_refl _) (fun g hg => by simp [Value.ownBlock] at hg)
              have rO8 := rO7.keep b8
              have hz8 := b8.size
              obtain ⟨lo8, lc8, rfl⟩ := owns_slice hown8
              have o0 := rO8.cell (i := 0) rfl
              have o1 := rO8.cell (i := 1) rfl
              have o2 := rO8.cell (i := 2) rfl
              have o3 := rO8.cell (i := 3) rfl
              clear hsA hgrow8 cq7 z47 rO7 px hrow7
              go_wp2_with (at_builtin; refine wpList_append_own _ rfl _ _ 34 rfl w7.heap.size 36 k0 (.agg #[.int .i64 0, .int .i64 0, .int .i64 0, .int .i64 0]) 4 32 Tryz.underlying34 ki kz0 kz1 kz2 rfl (by decide) _ _ _ rfl (hown8.alloc _) ⟨w8.heap.size, 0, none⟩ 1 1 [.int .i64 oa, .int .i64 (R : Int), .int .i64 oc, .int .i64 od] rfl rfl ?e1 four_one ?e3 ?e4 ?e5 ?_)
              try (case e1 => simpa using four_new w8 _ _ _ _ _)
              try (case e3 => unfold maxLen; omega)
              try (case e4 => omega)
              try (case e5 => first | omega | (simp; omega))
              intro v9 w9 hown9 hgrow9 _
              have b9 := (b8.alloc hz8 (.cells #[.int .i64 oa, .int .i64 (R : Int), .int .i64 oc, .int .i64 od] 36)).grown hgrow9 (by simp; omega) (fun g hg => (hown8.lt g hg).1)
              have hz9 := b9.size
              obtain ⟨lo9, lc9, rfl⟩ := owns_slice hown9
              have S9 := HS7.out.keep b9
              have hrow9 := S9.ownQ.each _ (List.getElem_mem hbq)
              rw [← HOPS.out, HSV.out] at hrow9
              have hsB := src_drop hrow9 t (on - t) (uc - t) (by rw [← HON.out]) htl
              obtain ⟨qg', eqg, _, cq9, _⟩ := ownBlocks_at S9.ownQ hbq
              simp only [Option.some.injEq, Addr.mk.injEq, and_true] at eqg
              subst eqg
              rw [HSV.out, ← HON.out] at cq9
              have z49 := S9.rowQ.cell (i := 4) rfl
              clear S9 hrow9 hgrow9 hown8 rO8 o0 o1 o2 o3
              go_wp2_with (at_builtin; refine wpList_append_any _ rfl _ _ 34 rfl w7.heap.size 36 k0 (.agg #[.int .i64 0, .int .i64 0, .int .i64 0, .int .i64 0]) 4 32 Tryz.underlying34 ki kz0 kz1 kz2 rfl (by decide) _ _ _ rfl hown9 _ _ _ rfl hsB ?m3 ?m4 ?m5 ?_)
              try (case m3 => unfold maxLen; omega)
              try (case m4 => omega)
              try (case m5 => exact hz9)
              intro v10 w10 hown10 hgrow10
              have b10 := b9.grown hgrow10 hz9 (fun g hg => (hown9.lt g hg).1)
              have e10 : opCells (ops.take t ++ ⟨oa, R, oc, od⟩ :: ops.drop t) = opCells (ops.take t) ++ [.int .i64 oa, .int .i64 (R : Int), .int .i64 oc, .int .i64 od] ++ opCells (ops.drop t) := by simp [opCells_append, opCells]
              have l10 : (ops.take t ++ (⟨oa, R, oc, od⟩ : OpD) :: ops.drop t).length = t + 1 + (on - t) := by rw [List.length_append, List.length_cons, List.length_take, List.length_drop]; have := HON.out; omega
              have lown : w10.ownsRow w7.heap.size 36 4 v10 (ops.take t ++ ⟨oa, R, oc, od⟩ :: ops.drop t).length (opCells (ops.take t ++ ⟨oa, R, oc, od⟩ :: ops.drop t)) := by
                rw [e10, l10]; first | exact hown10 | simpa using hown10
              have S10 := HS7.out.keep b10
              obtain ⟨qg', eqg, _, cq10, _, _, _, _, cqf⟩ := ownBlocks_at S10.ownQ hbq
              simp only [Option.some.injEq, Addr.mk.injEq, and_true] at eqg
              subst eqg
              rw [HSV.out, ← HON.out] at cq10
              have z410 := S10.rowQ.cell (i := 4) rfl
              have cqf0 := cqf (j * 5)
              rw [HOPS.out] at lown
              have SF := HS7.out.put hlt hbq hbl b10 hqgQ hqgB HSW.out HBW.out.size HJ.out.2 HJ.out.1 t lown
              obtain ⟨lo10, lc10, hv10⟩ := owns_slice hown10
              subst hv10
              have HSF := Lib.hid SF
              clear S10 SF lown e10 l10 hgrow10 hown10 hown9 hsB cq9 z49 HS7 HJ cqf b8 b9 b10
              go_wp2
              go_roundw
              case rel => exact ⟨k + 1, _, by omega, by go_num, HSF.out⟩
              case measure => simp [intOf]; omega
        · have hkm' : k = m := by omega
          have SU := S.up (show k ≤ 2 by omega)
          have HSU := Lib.hid SU
          clear S SU hkm'
          go_wp2
          go_roundw
          case rel => exact ⟨j + 1, qv, by omega, by go_num, HSU.out⟩
          case measure => simp [intOf]; omega
    · have hjn : j = n := by omega
      subst hjn
      have rP := HRP.out.keep S.below
      have rdp := HRD.out.keep S.below
      have rdq := OwnBlocks.rd S.ownQ
      have bw : Below w.heap.size w wo := HBW.out.trans (S.below.mono HBW.out.size)
      have q6 := fun P' => identity_cps a0 (R : Int) a2 0 bo j bc wo (by omega) (by omega) (by omega) P'
      have p0 := rP.cell (i := 0) rfl
      have p1 := rP.cell (i := 1) rfl
      have p2 := rP.cell (i := 2) rfl
      have p3 := rP.cell (i := 3) rfl
      have p4 := rP.cell (i := 4) rfl
      have sp7 : ∀ b, b < l0.length → (bops l0 b).length ≤ 7 := fun b hb => by have := HSP.out b hb; omega
      have sq7 : ∀ b, b < l0.length → (bops (bdat qv) b).length ≤ 7 := fun b hb => by
        have h1 := S.lim b (by rw [HLN.out]; exact hb)
        rw [if_pos (by rw [HLN.out]; exact hb)] at h1
        exact h1
      have HT := Lib.hid (S.ok.twins HG.out (show (R : Int) ≤ 7 by omega) sp7 sq7)
      have HGH : Hid (goodHint (idHint ⟨a0, R, a2, 0, l0⟩) = true) := idHint_good HG.out
      have HGQ := Lib.hid (S.ok.good HG.out (show (R : Int) ≤ 7 by omega) sq7)
      have HRPr := Lib.hid rP
      have HRQr := Lib.hid S.rowQ
      have HRDP := Lib.hid rdp
      have HRDQ := Lib.hid rdq
      have HBWr := Lib.hid bw
      clear S rP rdp rdq bw sp7 sq7
      go_wp2_with fail
      refine q6 _ ?_
      intro v hv w6 hd hoh hb6
      obtain ⟨ho', hc', rfl⟩ := owns_slice hoh.row
      have rh6 := OwnHint.rd hoh
      rw [hd.out] at rh6
      have hid : idPings j ((R : Int)).toNat = idHint ⟨a0, R, a2, 0, l0⟩ := by rw [idHint_pings]; show idPings j _ = idPings l0.length _; rw [HLN.out]
      rw [hid] at rh6
      have b06 := HBWr.out.trans (hb6.mono HBWr.out.size)
      obtain ⟨w7, hw7⟩ : ∃ x, x = w6.alloc (.cells #[.slice ho' hv.length hc'] 30) := ⟨_, rfl⟩
      have b67 : Below w6.heap.size w6 w7 := by subst hw7; exact (Below.refl _ _).alloc (Nat.le_refl _) _
      have br7 := hb6.trans (b67.mono hb6.size)
      have b07 := b06.trans (b67.mono b06.size)
      have rh7 := rh6.keep b67
      have rdp7 := HRDP.out.keep br7
      have rdq7 := HRDQ.out.keep br7
      have tab7 := HTB.out.keep b07
      have q7 := fun P' => accepted_cps ⟨a0, R, a2, 0, l0⟩ ⟨a0, (R : Int) + 1, a2, 0, bdat qv⟩ _ (.slice bo j bc) (.slice (some ⟨qg, 0, none⟩) j qc) (.slice ho' hv.length hc') w7 rdp7 rdq7 rh7 HG.out HGQ.out HGH.out tab7 HT.out.1 P'
      have q8 := fun w8 P' (hb : Below w7.heap.size w7 w8) => accepted_cps ⟨a0, (R : Int) + 1, a2, 0, bdat qv⟩ ⟨a0, R, a2, 0, l0⟩ _ (.slice (some ⟨qg, 0, none⟩) j qc) (.slice bo j bc) (.slice ho' hv.length hc') w8 (rdq7.keep hb) (rdp7.keep hb) (rh7.keep hb) HGQ.out HG.out HGH.out (tab7.keep hb) HT.out.2 P'
      have rP7 := HRPr.out.keep br7
      have rQ7 := HRQr.out.keep br7
      have rH7 : Row w7 w6.heap.size 30 [.slice ho' hv.length hc'] := by subst hw7; exact heap_alloc_new w6 _
      have HRP7 := Lib.hid rP7
      have HRQ7 := Lib.hid rQ7
      have HRH7 := Lib.hid rH7
      have u0 := rP7.cell (i := 0) rfl
      have v0 := rQ7.cell (i := 0) rfl
      have u1 := rP7.cell (i := 1) rfl
      have v1 := rQ7.cell (i := 1) rfl
      have u2 := rP7.cell (i := 2) rfl
      have v2 := rQ7.cell (i := 2) rfl
      have u3 := rP7.cell (i := 3) rfl
      have v3 := rQ7.cell (i := 3) rfl
      have u4 := rP7.cell (i := 4) rfl
      have v4 := rQ7.cell (i := 4) rfl
      have hh0 := rH7.cell (i := 0) rfl
      have HB07 := Lib.hid b07
      have HW7 := Lib.hid hw7
      have HQ8 := Lib.hid q8
      rw [hw7] at q7 hh0 u0 v0 u1 v1 u2 v2 u3 v3 u4 v4
      clear q6 hd hoh hb6 rh6 hid b06 hw7 b67 br7 b07 rP7 rQ7 rH7 p0 p1 p2 p3 p4 HRPr HRQr HRDP HRDQ HBWr HT HGH HGQ q8 rdp7 rdq7 rh7 tab7
      go_wp2_with fail
      refine q7 _ ?_
      intro w8 hb8
      rw [← HW7.out] at hb8
      have q9 := fun P' => HQ8.out w8 P' hb8
      have rP8 := HRP7.out.keep hb8
      have rQ8 := HRQ7.out.keep hb8
      have rH8 := HRH7.out.keep hb8
      clear q7 hh0 u0 v0 u1 v1 u2 v2 u3 v3 u4 v4
      have u0 := rP8.cell (i := 0) rfl
      have v0 := rQ8.cell (i := 0) rfl
      have u1 := rP8.cell (i := 1) rfl
      have v1 := rQ8.cell (i := 1) rfl
      have u2 := rP8.cell (i := 2) rfl
      have v2 := rQ8.cell (i := 2) rfl
      have u3 := rP8.cell (i := 3) rfl
      have v3 := rQ8.cell (i := 3) rfl
      have u4 := rP8.cell (i := 4) rfl
      have v4 := rQ8.cell (i := 4) rfl
      have hh0 := rH8.cell (i := 0) rfl
      have HB8 := Lib.hid (HB07.out.trans (hb8.mono HB07.out.size))
      clear hb8 rP8 rQ8 rH8 HQ8 HRP7 HRQ7 HRH7 HW7 HB07
      go_wp2_with fail
      refine q9 _ ?_
      intro w9 hb9
      have HF := Lib.hid (HP.out w9 (HB8.out.trans (hb9.mono HB8.out.size)))
      clear q9 hb9 HB8 HP hh0 u0 v0 u1 v1 u2 v2 u3 v3 u4 v4
      go_wp2
      exact HF.out

end Go.Proofs.YtblhmeidbjigaabGreatDoor
