import Derived.Test.YtfkhhplcogedmaaGreatDoorMgD
import Derived.Test.YtfkhhplcogedmaaGreatDoorMgE
import Derived.Lib.AppendZerosOnto
import Derived.Lib.Walk
import Derived.Lib.SliceRun
import Derived.Test.YtfkhhplcogedmaaGreatDoorMgC
import Derived.Maps.OwnSet
import Derived.Maps.RangeWalk
/-
  Verify: slices.Concat of numbers.
-/
namespace Go.Proofs.YtfkhhplcogedmaaGreatDoor
open Go.RowKit
set_option maxRecDepth 100000
set_option maxHeartbeats 2000000 in
theorem growi_zero (w : World) : Calls Tryz.prog 74 #[.slice none 0 0, .int .i64 0] w fun e w' => e = .returned (.slice none 0 0) ∧ w' = w := by
  go_enter Tryz.func74, Tryz.ntmps74
  go_wp2_with fail
  go_ret
  exact ⟨rfl, rfl⟩
set_option maxHeartbeats 2000000 in
theorem growi_some (n : Nat) (w : World) (h0 : 0 < n) (hn : n ≤ 1000000000) :
    Calls Tryz.prog 74 #[.slice none 0 0, .int .i64 n] w fun e w' => ∃ v', e = .returned v' ∧ w'.ownsRow w.heap.size 3 1 v' 0 [] ∧ Below w.heap.size w w' := by
  obtain ⟨i0, hi, hz0, hz1, hz2⟩ := info_parts infoI2
  have hrz : ∀ ty, (Builtin.append_ #[36, 3] ty #[.slice none 0 0, .int .i64 (n : Int)]).run Tryz.prog w =
      .ok (.slice (some ⟨w.heap.size, 0, none⟩) n (grownCap w n 0 3)) (w.drew.alloc (.cells (#[] ++ Builtin.zeroCells (Value.int .i64 0).cells n ++ Builtin.zeroCells (Value.int .i64 0).cells (grownCap w n 0 3 - n)) 3)) := fun ty => by
    have h := Lib.run_append_grow_zeros (P := Tryz.prog) w 36 3 ty 3 i0 (.int .i64 0) .i64 .i64 Tryz.underlying36 Tryz.underlying3 hi hz0 none 0 0 [] (run_firstCells_none w.drew i0.size 0 0 0) n h0 (by omega) (by omega) (by omega) (by rw [hz2]; omega) (by rw [Nat.zero_add]; exact growslice_fits h0 (by rw [hz2]; omega))
    simpa using h
  have hG := grownCap_ge w n 0 3
  have hM := grownCap_le_maxLen w n 0 3 (by unfold maxLen; omega)
  have hM' : grownCap w n 0 3 ≤ 9223372036854775807 := by unfold maxLen at hM; omega
  generalize grownCap w n 0 3 = G at *
  have HM := hide hM
  clear hM
  go_enter Tryz.func74, Tryz.ntmps74
  go_wp2_with (at_builtin; refine Lib.wpList_append_run _ rfl _ _ _ _ rfl _ _ rfl rfl _ _ (hrz _) ?_)
  go_ret
  refine ⟨_, rfl, ⟨by simp, .inr ⟨w.heap.size, G, _, rfl, Nat.le_refl _, heap_alloc_new w.drew _, Nat.zero_le _, HM.out, ?_, by simp⟩⟩, ?_⟩
  · simp [Builtin.zeroCells]
    omega
  · exact ((Below.refl _ w).drew).alloc (Nat.le_refl _) _
theorem growi_any (n : Nat) (w : World) (hn : n ≤ 1000000000) :
    Calls Tryz.prog 74 #[.slice none 0 0, .int .i64 n] w fun e w' => ∃ v', e = .returned v' ∧ w'.ownsRow w.heap.size 3 1 v' 0 [] ∧ Below w.heap.size w w' := by
  by_cases h0 : 0 < n
  · exact growi_some n w h0 hn
  · obtain rfl : n = 0 := by omega
    exact (growi_zero w).mono fun e w' ⟨he, hw⟩ => ⟨_, he, World.ownsRow_nil _ _ _ _, hw ▸ Below.refl _ _⟩
/-- Numbers that are read, put behind an own row. -/
theorem appendNl {Q' : Nat → Prop} {w : World} {ops : Array Oper} {rest : List Oper} {o : Oper} {a : Act} {Q : Exit → Act → World → Prop} (hgd : o.guard = none) (s x : Operand)
    (ho : o.op = .call { callee := .builtin .append, args := #[s, x], argTypes := #[36, 36] })
    (base : Nat) (v : Value) (n : Nat) (xs : List Value) (hs : a.eval s = v) (hown : w.ownsRow base 3 1 v n xs) (vx : Value) (l : List Int) (hx : a.eval x = vx) (hl : Nl Q' w vx l) (hb : n + l.length ≤ 10000000000) (hbase : base ≤ w.heap.size)
    (h : ∀ v' w', w'.ownsRow base 3 1 v' (n + l.length) (xs ++ zq l) → w.grownBy w' v.ownBlock → wpList Tryz.prog ops Q rest (a.put o.dst v') w') :
    wpList Tryz.prog ops Q (o :: rest) a w := by
  refine wpList_plain hgd fun K hK => ?_
  obtain ⟨i0, hi, hz0, hz1, hz2⟩ := info_parts infoI2
  have hn := @Nl.nth
  obtain ⟨ao, c, rfl, h1, h2⟩ := hl.at
  have main : ∃ v' w', (Builtin.append_ #[36, 36] o.type #[v, .slice ao l.length c]).run Tryz.prog w = .ok v' w' ∧ w'.ownsRow base 3 1 v' (n + l.length) (xs ++ zq l) ∧ w.grownBy w' v.ownBlock := by
    cases ao with
    | none =>
      obtain rfl : l = [] := by
        cases l with
        | nil => rfl
        | cons y t =>
          obtain ⟨g, o, e, -⟩ := hl.nth (k := 0) (by simp)
          cases e
      refine ⟨v, w, ?_, by simpa [zq] using hown, World.grownBy.refl _ _⟩
      rcases hown.2 with ⟨rfl, rfl⟩ | ⟨g, cap, cur, rfl, _, _, hnc, _⟩
      · simp [Builtin.append_, run_underlying Tryz.underlying36, typeInfo, hi, Builtin.lenOf, Builtin.firstCells]
      · simp [Builtin.append_, run_underlying Tryz.underlying36, typeInfo, hi, Builtin.lenOf, Builtin.firstCells, hnc, storeCells]
    | some ad =>
      obtain ⟨v', w', hr, a2, a3, -, -⟩ := run_append_own_at (P := Tryz.prog) w base 36 o.type 3 i0 (.int .i64 0) 1 8 Tryz.underlying36 hi hz0 hz1 hz2 rfl (by decide) v n xs hown ad l.length c (zq l) (by rw [zq_len]; omega) (fun j u hj => by
        have hj2 : j < l.length := by
          have := (List.getElem?_eq_some_iff.1 hj).1
          rwa [zq_len] at this
        obtain ⟨g', o', e3, -, z4, -⟩ := hl.nth hj2
        obtain rfl := Option.some.inj e3
        have hj3 : (zq l)[j]? = some (.int .i64 l[j]) := by simp [zq, hj2]
        rw [hj3] at hj
        rw [show (⟨g', o', none⟩ : Addr).add j = ⟨g', o' + j, none⟩ by simp [Addr.add], ← Option.some.inj hj]
        exact z4) (fun u hu => by
        obtain ⟨y, _, rfl⟩ := List.mem_map.1 hu
        rfl) (by unfold maxLen; omega) (by omega) hbase
      exact ⟨v', w', hr, a2, a3⟩
  obtain ⟨v', w', hr, h2', h3'⟩ := main
  unfold Oper.wp execOp
  simp only [ho, resolve, invoke, builtin, Sem.run_bind, Sem.run_pure, Result.andThen_ok, List.map_toArray, List.map_cons, List.map_nil, hs, hx, hr]
  exact hK _ _ (h v' w' h2' h3')
/-- How many numbers lists have together. -/
def totI (ls : List (List Int)) : Nat := ls.flatten.length
theorem totI_take (ls : List (List Int)) {k : Nat} (h : k < ls.length) : totI (ls.take (k + 1)) = totI (ls.take k) + ls[k].length := by
  rw [List.take_succ_eq_append_getElem h]
  simp only [totI, List.flatten_append, List.flatten_cons, List.flatten_nil, List.append_nil, List.length_append]
theorem totI_le (ls : List (List Int)) (k : Nat) : totI (ls.take k) ≤ totI ls := by
  have h := congrArg totI (List.take_append_drop k ls)
  simp only [totI, List.flatten_append, List.length_append] at h ⊢
  omega
theorem flatI_take (ls : List (List Int)) {k : Nat} (h : k < ls.length) : (ls.take (k + 1)).flatten = (ls.take k).flatten ++ ls[k] := by
  rw [List.take_succ_eq_append_getElem h]
  simp only [List.flatten_append, List.flatten_cons, List.flatten_nil, List.append_nil]
theorem zq_append (a b : List Int) : zq (a ++ b) = zq a ++ zq b := by simp [zq]
set_option maxHeartbeats 4000000 in
theorem concati_any {Q : Nat → Prop} (g c : Nat) (vs : Nat → Value) (ls : List (List Int)) (w : World) (hc : ls.length ≤ c) (hcm : c ≤ 9223372036854775807) (hcell : ∀ i, i < ls.length → w.cell? ⟨g, i, none⟩ = some (vs i)) (hb : ∀ i (h : i < ls.length), Nl Q w (vs i) ls[i]) (ht : totI ls ≤ 1000000000) :
    Calls Tryz.prog 46 #[.slice (some ⟨g, 0, none⟩) ls.length c] w fun e w' => ∃ v', e = .returned v' ∧ w'.ownsRow w.heap.size 3 1 v' (totI ls) (zq ls.flatten) ∧ Below w.heap.size w w' := by
  have HC := hide hcell
  have HB := hide hb
  clear hcell hb
  go_enter Tryz.func46, Tryz.ntmps46
  go_wp2_with fail
  go_loopw [3, 11] (fun s i wr => wr = w ∧ ∃ k : Nat, k ≤ ls.length ∧ i = .int .i64 k ∧ s = .int .i64 (totI (ls.take k))) (fun _ i _ => ls.length - (intOf i).toNat)
  case atStart => exact ⟨rfl, 0, Nat.zero_le _, rfl, rfl⟩
  case round =>
    obtain ⟨hw, k, hk, rfl, rfl⟩ := hrel
    obtain rfl := hw.symm
    have hle := totI_le ls k
    by_cases hlt : k < ls.length
    · have hcl := HC.out k hlt
      obtain ⟨ao, cc, hv, h1, h2⟩ := (HB.out k hlt).at
      have e1 : (k : Int) < (ls.length : Int) := by omega
      rw [hv] at hcl
      have hle1 := totI_le ls (k + 1)
      rw [totI_take ls hlt] at hle1
      have HT := hide (totI_take ls hlt)
      have hn : ¬ ((totI (ls.take k) : Int) + (ls[k].length : Int) < 0) := by omega
      clear hv
      go_wp2_with fail
      refine ⟨⟨trivial, k + 1, by omega, by go_num, ?_⟩, by simp [intOf]; omega⟩
      rw [HT.out]
      go_num
    · have e1 : ¬ (k : Int) < (ls.length : Int) := by omega
      obtain rfl : k = ls.length := by omega
      have e0 : totI (ls.take ls.length) = totI ls := by rw [List.take_length]
      rw [e0] at *
      clear e0
      go_wp2_with fail
      refine (growi_any (totI ls) w ht).mono ?_
      rintro e w1 ⟨v1, rfl, ho1, hb1⟩
      have HO := hide ho1
      have HB1 := hide hb1
      clear ho1 hb1
      go_wp2_with fail
      go_loopw [6, 27] (fun v i w2 => ∃ k : Nat, k ≤ ls.length ∧ i = .int .i64 k ∧ w2.ownsRow w.heap.size 3 1 v (totI (ls.take k)) (zq (ls.take k).flatten) ∧ Below w.heap.size w w2) (fun _ i _ => ls.length - (intOf i).toNat)
      case atStart => exact ⟨0, Nat.zero_le _, rfl, HO.out, HB1.out⟩
      case round =>
        obtain ⟨k, hk2, rfl, ho2, hb2⟩ := hrel
        have hle2 := totI_le ls (k + 1)
        by_cases hlt : k < ls.length
        · have hcl := HC.out k hlt
          have hcl2 : wr.cell? ⟨g, k, none⟩ = some (vs k) := (hb2.cell (p := ⟨g, k, none⟩) (World.block_lt_of_cell? w _ hcl)).trans hcl
          have hbs2 := (HB.out k hlt).later hb2
          have e2 : (k : Int) < (ls.length : Int) := by omega
          rw [totI_take ls hlt] at hle2
          have HT := hide (totI_take ls hlt)
          have HF := hide (flatI_take ls hlt)
          have hsz := hb2.size
          clear hcl
          have e3 : ∃ ao cc, vs k = .slice ao ls[k].length cc := by obtain ⟨ao, cc, hv, _⟩ := hbs2.at; exact ⟨ao, cc, hv⟩
          obtain ⟨ao, cc, hv⟩ := e3
          rw [hv] at hcl2 hbs2
          have HBS := hide hbs2
          have HO2 := hide ho2
          obtain ⟨a6, c6, rfl⟩ := own_len ho2
          clear hv hbs2 ho2
          go_wp2_with (at_builtin; refine appendNl rfl _ _ rfl w.heap.size _ _ _ rfl HO2.out _ ls[k] rfl HBS.out ?k1 ?k2 ?_)
          case k1 => omega
          case k2 => exact hsz
          intro v3 w3 ho3 hb3
          have HO3 := hide ho3
          have hbl := hb2.grown hb3 hb2.size (fun k e => (HO2.out.lt k e).1)
          have HBL := hide hbl
          clear ho3 hb3 hbl
          go_wp2_with fail
          go_roundw
          case rel =>
            refine ⟨k + 1, by omega, by go_num, ?_, HBL.out⟩
            have := HO3.out
            rw [HT.out, HF.out, zq_append]
            exact this
          case measure => simp [intOf]; omega
        · have e2 : ¬ (k : Int) < (ls.length : Int) := by omega
          obtain rfl : k = ls.length := by omega
          rw [List.take_length] at ho2
          go_wp2_with fail
          go_ret
          exact ⟨_, rfl, ho2, hb2⟩
end Go.Proofs.YtfkhhplcogedmaaGreatDoor

/-
  Verify: a map from places to depths.
-/
namespace Go.Proofs.YtfkhhplcogedmaaGreatDoor
open Go.RowKit
set_option maxRecDepth 100000
theorem keyedI : Maps.Keyed Tryz.prog 3 := Maps.int_keyed Tryz.underlying3
theorem keyI (k : Nat) (h : k ≤ 1000000) : keyOf Tryz.prog 3 (.int .i64 (k : Int)) = some (.int .i64 (k : Int)) := by
  have hw : (Lit.int .i64 (k : Int)).wf = true := by simp [Lit.wf, IntKind.min, IntKind.max, IntKind.signed, IntKind.bits]; omega
  simp [keyOf, mapKey, Tryz.underlying3, hw]
theorem zeroSl (w : World) : (zeroValue 36).run Tryz.prog w = .ok (.slice none 0 0) w := by kernel_rfl
/-- A row's head. -/
def hdE (v : Value) : Option (DataW (Nat × Nat × Nat) × List MemPlace) :=
  match v with
  | .slice none 0 0 => some (.nil, [])
  | .slice (some ⟨g, 0, none⟩) n c => some (.held (g, n, c), [])
  | _ => none
theorem hdE_held {v : Value} {g n c : Nat} {ps : List MemPlace} (h : hdE v = some (.held (g, n, c), ps)) : v = .slice (some ⟨g, 0, none⟩) n c := by
  unfold hdE at h
  split at h
  · simp at h
  · simp only [Option.some.injEq, Prod.mk.injEq, DataW.held.injEq] at h
    obtain ⟨⟨rfl, rfl, rfl⟩, -⟩ := h
    rfl
  · cases h
theorem hdE_nil {v : Value} {ps : List MemPlace} (h : hdE v = some (.nil, ps)) : v = .slice none 0 0 := by
  unfold hdE at h
  split at h
  · rfl
  · simp at h
  · cases h
theorem hdE_inv (v : Value) (y : DataW (Nat × Nat × Nat) × List MemPlace) (h : hdE v = some y) : ∃ c : Option Addr × Nat × Nat, v = .slice c.1 c.2.1 c.2.2 := by
  unfold hdE at h
  split at h
  · exact ⟨(none, 0, 0), rfl⟩
  · rename_i g n c
    exact ⟨(some ⟨g, 0, none⟩, n, c), rfl⟩
  · cases h
/-- What stands at each place of a map of rows. -/
structure Me (w : World) (B : Nat) (D : DataW (Nat × Nat × Nat)) (bl cp : Nat → Nat) (kn : Nat → List Nat) : Prop where
  at' : ∀ p : Nat, p ≤ 1000000 → Maps.has D (.int .i64 (p : Int)) = decide (kn p ≠ []) ∧ (kn p ≠ [] → D.atKey (.int .i64 (p : Int)) .nil = .held (bl p, (kn p).length, cp p))
  row : ∀ p : Nat, kn p ≠ [] → p ≤ 1000000 ∧ w.ownsRow B 3 1 (.slice (some ⟨bl p, 0, none⟩) (kn p).length (cp p)) (kn p).length (nz (kn p))
  inj : ∀ p q : Nat, kn p ≠ [] → kn q ≠ [] → bl p = bl q → p = q
  key : ∀ kl, Maps.has D kl = true → ∃ p : Nat, p ≤ 1000000 ∧ kl = .int .i64 (p : Int)
/-- A map from places to rows of depths, each in a block of its own. -/
def Md (w : World) (B gm n : Nat) (kn : Nat → List Nat) : Prop :=
  ∃ (D : DataW (Nat × Nat × Nat)) (bl cp : Nat → Nat), w.ownsMap Tryz.prog 3 hdE gm n D ∧ Me w B D bl cp kn
section
variable {w w' : World} {B gm n : Nat} {kn : Nat → List Nat}
theorem Md.made (w : World) (B : Nat) : Md (w.alloc (.map #[] 0)) B w.heap.size 0 (fun _ => []) :=
  ⟨.map [], fun _ => 0, fun _ => 0, World.ownsMap_made w _ _ _, ⟨fun _ _ => ⟨rfl, fun h => absurd rfl h⟩, fun _ h => absurd rfl h, fun _ _ h => absurd rfl h, fun kl h => by
    have e : Maps.has (H := Nat × Nat × Nat) (.map []) kl = false := rfl
    rw [e] at h
    cases h⟩⟩
theorem Md.lt (h : Md w B gm n kn) : gm < w.heap.size := by
  obtain ⟨D, bl, cp, h1, -⟩ := h
  exact h1.lt
theorem Md.isMap (h : Md w B gm n kn) : ∃ es ck, w.heap[gm]? = some (.map es ck) := by
  obtain ⟨D, bl, cp, ⟨es, ck, h1, -⟩, -⟩ := h
  exact ⟨es, ck, h1⟩
theorem Me.kept {D : DataW (Nat × Nat × Nat)} {bl cp : Nat → Nat} {row : Option Nat} (h : Me w B D bl cp kn) (hg : w.grownBy w' row) (h1 : ∀ p, kn p ≠ [] → row ≠ some (bl p)) : Me w' B D bl cp kn :=
  ⟨h.at', fun p hp => ⟨(h.row p hp).1, own_kept (h.row p hp).2 hg (fun k e => by
    simp only [Value.ownBlock, Option.some.injEq] at e
    exact e ▸ h1 p hp)⟩, h.inj, h.key⟩
theorem Md.later (h : Md w B gm n kn) (hb : Below w.heap.size w w') : Md w' B gm n kn := by
  obtain ⟨D, bl, cp, h1, h2⟩ := h
  exact ⟨D, bl, cp, h1.kept (grown_later hb) (by simp), h2.kept (grown_later hb) (fun _ _ => by simp)⟩
/-- A row of another sort grows. -/
theorem Md.other (h : Md w B gm n kn) {B' e s m : Nat} {v : Value} {xs : List Value} (hv : w.ownsRow B' e s v m xs) (he : e ≠ 3) (hg : w.grownBy w' v.ownBlock) : Md w' B gm n kn := by
  have hm := h.isMap
  obtain ⟨D, bl, cp, h1, h2⟩ := h
  have hne : ∀ k, v.ownBlock = some k → k ≠ gm := fun k hk e' => by
    obtain ⟨cur, hc⟩ := own_blk2 hv hk
    obtain ⟨es, ck, hm⟩ := hm
    rw [e', hm] at hc
    cases hc
  refine ⟨D, bl, cp, h1.kept hg (fun e' => hne gm e'.symm rfl), h2.kept hg (fun p hp e' => ?_)⟩
  exact own_ap2 (h2.row p hp).2 hv (fun e'' => he e''.symm) (bl p) rfl e'
/-- The depths at a place. -/
theorem Md.look (h : Md w B gm n kn) (p : Nat) (hp : p ≤ 1000000) : ∃ v, (∀ W : World, W.heap[gm]? = w.heap[gm]? → (Instr.lookup 118 (.map (some gm)) (.int .i64 (p : Int)) false).run Tryz.prog W = .ok v W) ∧ w.ownsRow B 3 1 v (kn p).length (nz (kn p)) ∧ (∀ k, v.ownBlock = some k → k < w.heap.size ∧ B ≤ k) := by
  obtain ⟨D, bl, cp, h1, h2⟩ := h
  have look : ∀ W : World, W.heap[gm]? = w.heap[gm]? → ∃ v ps, (Instr.lookup 118 (.map (some gm)) (.int .i64 (p : Int)) false).run Tryz.prog W = .ok v W ∧ hdE v = some (D.atKey (.int .i64 (p : Int)) .nil, ps) := fun W hW => by
    have h1' : W.ownsMap Tryz.prog 3 hdE gm n D := by
      obtain ⟨es, ck, x1, x2⟩ := h1
      exact ⟨es, ck, hW.trans x1, x2⟩
    exact h1'.lookup keyedI Tryz.underlying118 (zeroSl W) (zd := .nil) (zp := []) rfl (keyI p hp)
  by_cases c : kn p = []
  · have hno : Maps.has D (.int .i64 (p : Int)) = false := by rw [(h2.at' p hp).1]; simp [c]
    rw [Maps.atKey_of_not_has hno] at look
    refine ⟨.slice none 0 0, fun W hW => ?_, ?_, fun k e => by simp [Value.ownBlock] at e⟩
    · obtain ⟨v, ps, hr, hv⟩ := look W hW
      rw [hdE_nil hv] at hr
      exact hr
    · rw [c]
      exact World.ownsRow_nil _ _ _ _
  · rw [(h2.at' p hp).2 c] at look
    refine ⟨.slice (some ⟨bl p, 0, none⟩) (kn p).length (cp p), fun W hW => ?_, (h2.row p c).2, fun k e => ?_⟩
    · obtain ⟨v, ps, hr, hv⟩ := look W hW
      rw [hdE_held hv] at hr
      exact hr
    · obtain ⟨cur, hc⟩ := own_blk2 (h2.row p c).2 e
      refine ⟨lt_of_block hc, ?_⟩
      simp only [Value.ownBlock, Option.some.injEq] at e
      have := own_ge (h2.row p c).2
      omega
/-- One depth is put behind those at a place. -/
theorem Md.put (h : Md w B gm n kn) (p d : Nat) (hp : p ≤ 1000000) (hn : n ≤ 1000000000) {v : Value} (hl : (Instr.lookup 118 (.map (some gm)) (.int .i64 (p : Int)) false).run Tryz.prog w = .ok v w) {g' c' m : Nat} (hm : m = (kn p).length + 1) (hg : w.grownBy w' v.ownBlock) (ho : w'.ownsRow B 3 1 (.slice (some ⟨g', 0, none⟩) m c') m (nz (kn p ++ [d]))) (hw : v.ownBlock = some g' ∨ w.heap.size ≤ g') :
    ∃ w2, (Instr.mapUpdate 118 (.map (some gm)) (.int .i64 (p : Int)) (.slice (some ⟨g', 0, none⟩) m c')).run Tryz.prog w' = .ok () w2 ∧ Md w2 B gm (n + 1) (knA kn p d) ∧ w'.grownBy w2 (some gm) := by
  have hmap := h.isMap
  have hgm := h.lt
  obtain ⟨D, bl, cp, h1, h2⟩ := h
  obtain ⟨v0, ps, hr, hv⟩ := h1.lookup keyedI Tryz.underlying118 (zeroSl w) (zd := .nil) (zp := []) rfl (keyI p hp)
  rw [hl] at hr
  injection hr with hr _
  subst hr
  have hvb : ∀ k, v.ownBlock = some k → kn p ≠ [] ∧ bl p = k := fun k e => by
    by_cases c : kn p = []
    · have : Maps.has D (.int .i64 (p : Int)) = false := by rw [(h2.at' p hp).1]; simp [c]
      rw [Maps.atKey_of_not_has this] at hv
      rw [hdE_nil hv] at e
      simp [Value.ownBlock] at e
    · rw [(h2.at' p hp).2 c] at hv
      rw [hdE_held hv] at e
      simp only [Value.ownBlock, Option.some.injEq] at e
      exact ⟨c, e⟩
  have hblk : ∀ q, kn q ≠ [] → (∃ cur, w.heap[bl q]? = some (.cells cur 3 (0, 0))) := fun q hq => own_blk2 (h2.row q hq).2 rfl
  have hne : v.ownBlock ≠ some gm := fun e => by
    obtain ⟨c, e2⟩ := hvb gm e
    obtain ⟨cur, hc⟩ := hblk p c
    obtain ⟨es, ck, hm⟩ := hmap
    rw [e2, hm] at hc
    cases hc
  have k1 := h1.kept hg (fun e => hne e.symm)
  obtain ⟨w2, hr2, k2, k3⟩ := k1.update keyedI Tryz.underlying118 (by unfold maxLen; omega) (keyI p hp) (val := .slice (some ⟨g', 0, none⟩) m c') (d := .held (g', m, c')) (ps := []) rfl
  refine ⟨w2, hr2, ⟨_, fun q => if q = p then g' else bl q, fun q => if q = p then c' else cp q, k2, ?_⟩, k3⟩
  have hgne : g' ≠ gm := fun e => by
    obtain ⟨cur, hc⟩ := own_blk2 ho (g := g') rfl
    obtain ⟨es, ck, hx⟩ := k1
    rw [e, hx.1] at hc
    cases hc
  have hrow : ∀ q, q ≠ p → kn q ≠ [] → bl q ≠ g' := fun q hqp hq e => by
    rcases hw with hw | hw
    · obtain ⟨c, e2⟩ := hvb g' hw
      exact hqp (h2.inj q p hq c (by omega))
    · obtain ⟨cur, hc⟩ := hblk q hq
      have := lt_of_block hc
      omega
  constructor
  · intro q hq
    by_cases e : q = p
    · subst e
      rw [Maps.has_put_same k1.isMap (keyedI.key (keyI q hp)), Maps.atKey_put_same k1.isMap (keyedI.key (keyI q hp))]
      simp [knA, hm]
    · have hne' : (Lit.int .i64 (q : Int)) ≠ .int .i64 (p : Int) := fun e' => by
        simp only [Lit.int.injEq, true_and] at e'
        omega
      rw [Maps.has_put_other hne', Maps.atKey_put_other hne']
      simp only [knA, if_neg e]
      exact h2.at' q hq
  · intro q hq
    by_cases e : q = p
    · subst e
      refine ⟨hp, ?_⟩
      have : (knA kn q d q).length = m := by simp [knA, hm]
      rw [this]
      simp only [if_true, knA]
      exact own_kept ho k3 (fun k e' => by
        simp only [Value.ownBlock, Option.some.injEq] at e'
        simp only [ne_eq, Option.some.injEq]
        omega)
    · simp only [knA, if_neg e] at hq ⊢
      refine ⟨(h2.row q hq).1, ?_⟩
      refine own_kept (own_kept (h2.row q hq).2 hg (fun k e' => ?_)) k3 (fun k e' => ?_)
      · simp only [Value.ownBlock, Option.some.injEq] at e'
        intro e2
        obtain ⟨c, e3⟩ := hvb k e2
        exact e (h2.inj q p hq c (by omega))
      · simp only [Value.ownBlock, Option.some.injEq] at e'
        simp only [ne_eq, Option.some.injEq]
        intro e2
        obtain ⟨cur, hc⟩ := hblk q hq
        obtain ⟨es, ck, hx⟩ := hmap
        rw [e', ← e2, hx] at hc
        cases hc
  · intro q r hq hr' e
    by_cases e1 : q = p
    · by_cases e2 : r = p
      · rw [e1, e2]
      · simp only [knA, if_neg e2] at hr'
        simp only [if_pos e1, if_neg e2] at e
        exact absurd e.symm (hrow r e2 hr')
    · simp only [knA, if_neg e1] at hq
      by_cases e2 : r = p
      · simp only [if_neg e1, if_pos e2] at e
        exact absurd e (hrow q e1 hq)
      · simp only [knA, if_neg e2] at hr'
        simp only [if_neg e1, if_neg e2] at e
        exact h2.inj q r hq hr' e
  · intro kl hkl
    by_cases c : kl = .int .i64 (p : Int)
    · exact ⟨p, hp, c⟩
    · rw [Maps.has_put_other c] at hkl
      exact h2.key kl hkl
end
end Go.Proofs.YtfkhhplcogedmaaGreatDoor

/-
  Verify: behind.
-/
namespace Go.Proofs.YtfkhhplcogedmaaGreatDoor
open Go.RowKit
set_option maxRecDepth 100000
/-- What behind answers. -/
def behV (r : Option Nat) : Value := match r with
  | none => .bool false
  | some _ => .bool true
theorem takE_nn {fs : List Rt} (i : Ins) : 0 ≤ takE fs i := by
  unfold takE parE
  repeat' split
  all_goals omega
set_option maxHeartbeats 4000000 in
theorem behind_any {Q : Nat → Prop} {w : World} {vc vf : Value} {c : List Ins} {fs : List Rt} (h : Il Q w vc c) (hf : Rts Q w vf fs) (ht : Tb w) (p d : Nat) (hp : p < c.length) (hd : d ≤ 64) : Calls Tryz.prog 81 #[.agg #[vc, vf], .agg #[.int .i64 (p : Int), .int .i64 (d : Int)]] w fun e w' => (∃ dv : Int, e = .returned (.tuple #[.int .i64 dv, .bool (behI fs c p d).isSome]) ∧ ∀ d', behI fs c p d = some d' → dv = (d' : Int)) ∧ Below w.heap.size w w' := by
  have JE : Hid (∀ W, Below w.heap.size w W → Calls Tryz.prog 100 #[insV (iat c p), vf] W fun e w' => e = .returned (.tuple #[.int .i64 (takE fs (iat c p)), .int .i64 (putE (iat c p))]) ∧ Below W.heap.size W w') := fun W hW => effect_any (hf.later hW) (ht.later hW) (iat c p)
  obtain ⟨ao, co, rfl, h1, h2⟩ := h.at
  obtain ⟨g, o, rfl, hq, d1, d2, i1, i2⟩ := h.nth hp
  obtain ⟨af, cf, rfl, hf1, hf2, -⟩ := hf
  rw [← iat_eq hp] at d1 d2 i1 i2
  have hn0 := takE_nn (fs := fs) (iat c p)
  have hpt : 0 ≤ putE (iat c p) ∧ putE (iat c p) ≤ 1 := by
    unfold putE
    have h40 := opk_lt (iat c p).op
    have hle : ∀ k, k < 40 → pts k ≤ 1 := by decide
    have := hle _ h40
    omega
  obtain ⟨tk, htk⟩ : ∃ t, t = takE fs (iat c p) := ⟨_, rfl⟩
  obtain ⟨pt, hpt'⟩ : ∃ t, t = putE (iat c p) := ⟨_, rfl⟩
  have HB : Hid (behI fs c p d = if (d : Int) < tk then none else if (d : Int) - tk + pt ≤ 64 then some ((d : Int) - tk + pt).toNat else none) := by
    rw [htk, hpt']
    rfl
  rw [← htk, ← hpt'] at JE
  rw [← htk] at hn0
  rw [← hpt'] at hpt
  unfold insV at JE
  obtain ⟨op, hop⟩ : ∃ x, x = (iat c p).op := ⟨_, rfl⟩
  obtain ⟨av, hav⟩ : ∃ x, x = (iat c p).a := ⟨_, rfl⟩
  rw [← hop] at d1 JE
  rw [← hav] at d2 JE
  obtain ⟨n, hn⟩ : ∃ n, n = c.length := ⟨_, rfl⟩
  obtain ⟨nf, hnf⟩ : ∃ n, n = fs.length := ⟨_, rfl⟩
  rw [← hn] at h1 hp ⊢
  rw [← hnf] at hf1 JE ⊢
  obtain ⟨r, hr⟩ : ∃ r, r = behI fs c p d := ⟨_, rfl⟩
  rw [← hr] at HB ⊢
  have hpn : (p : Int) < (n : Int) := by omega
  have hdb : (d : Int) ≤ 64 := by omega
  clear h htk hpt' hop hav hn hnf hr hq i1 i2 ht
  obtain ⟨w0, hw0⟩ : ∃ X, X = (w.alloc (.cells #[.slice (some ⟨g, o, none⟩) n co, .slice af nf cf] 80)).alloc (.cells #[.int .i64 (p : Int), .int .i64 (d : Int)] 147) := ⟨_, rfl⟩
  have B0 : Hid (Below w.heap.size w w0) := by unfold Hid; rw [hw0]; exact below_on (below_alloc w _) (below_alloc _ _)
  have HC : Hid (∀ W, Below w0.heap.size w0 W → (W.cell? ⟨w.heap.size, 0, none⟩ = some (.slice (some ⟨g, o, none⟩) n co) ∧ W.cell? ⟨w.heap.size, 1, none⟩ = some (.slice af nf cf) ∧ W.cell? ⟨w.heap.size + 1, 0, none⟩ = some (.int .i64 (p : Int)) ∧ W.cell? ⟨w.heap.size + 1, 1, none⟩ = some (.int .i64 (d : Int))) ∧ W.cell? ⟨g, o + p * 2, none⟩ = some (.int .i64 op) ∧ W.cell? ⟨g, o + p * 2 + 1, none⟩ = some (.int .i64 av)) := fun W hW => by
    have hb : w0.heap[w.heap.size]? = some (.cells #[.slice (some ⟨g, o, none⟩) n co, .slice af nf cf] 80 (0, 0)) := by
      rw [hw0]
      exact ((below_alloc (w.alloc (.cells #[.slice (some ⟨g, o, none⟩) n co, .slice af nf cf] 80)) _).block w.heap.size (by simp)).trans (heap_alloc_new w _)
    have hb' : w0.heap[w.heap.size + 1]? = some (.cells #[.int .i64 (p : Int), .int .i64 (d : Int)] 147 (0, 0)) := by
      rw [hw0]
      have := heap_alloc_new (w.alloc (.cells #[.slice (some ⟨g, o, none⟩) n co, .slice af nf cf] 80)) (.cells #[.int .i64 (p : Int), .int .i64 (d : Int)] 147)
      simpa using this
    have e1 := (hW.block _ (lt_of_block hb)).trans hb
    have e2 := (hW.block _ (lt_of_block hb')).trans hb'
    have hM := Mv.of_below (below_on B0.out hW) (fun _ => False)
    refine ⟨⟨?_, ?_, ?_, ?_⟩, hM.cell d1 id, hM.cell d2 id⟩
    · rw [cell_of_row _ _ _ _ 80 (0, 0) e1]; rfl
    · rw [cell_of_row _ _ _ _ 80 (0, 0) e1]; rfl
    · rw [cell_of_row _ _ _ _ 147 (0, 0) e2]; rfl
    · rw [cell_of_row _ _ _ _ 147 (0, 0) e2]; rfl
  obtain ⟨gw, hgw⟩ : ∃ x, x = w.heap.size := ⟨_, rfl⟩
  obtain ⟨gm, hgm⟩ : ∃ x, x = w.heap.size + 1 := ⟨_, rfl⟩
  rw [← hgm] at HC
  go_enter Tryz.func81, Tryz.ntmps81
  go_upto_region 1 with fail
  rw [← hw0, ← hgm, ← hgw]
  rw [← hgw] at HC
  clear hw0 hgw hgm d1 d2
  have S0 := hide (HC.out w0.drew (below_drew w0))
  go_region_held3 (fun V => (V.cell? ⟨gw, 0, none⟩ = some (.slice (some ⟨g, o, none⟩) n co) ∧ V.cell? ⟨gw, 1, none⟩ = some (.slice af nf cf) ∧ V.cell? ⟨gm, 0, none⟩ = some (.int .i64 (p : Int)) ∧ V.cell? ⟨gm, 1, none⟩ = some (.int .i64 (d : Int))) ∧ V.cell? ⟨g, o + p * 2, none⟩ = some (.int .i64 op) ∧ V.cell? ⟨g, o + p * 2 + 1, none⟩ = some (.int .i64 av)) (first | exact S0.out | exact S1) ((go_at_call 100; refine (JE.out _ (below_on B0.out (below_drew w0))).mono ?_; rintro e w1 ⟨rfl, b1⟩; have B1 := hide (below_on (below_drew w0) b1); have S1 := HC.out w1 B1.out; clear b1))
  obtain ⟨⟨-, -, -, e3⟩, -⟩ := S1
  have BF := hide (below_on B0.out B1.out)
  clear S0 HC JE
  by_cases c1 : (d : Int) < tk
  · have f1 : decide ((d : Int) < tk) = true := decide_eq_true c1
    rw [if_pos c1] at HB
    go_wp2_with fail
    go_ret2
    exact ⟨⟨0, by rw [HB.out]; rfl, fun d' e => by rw [HB.out] at e; cases e⟩, BF.out⟩
  · have f1 : decide ((d : Int) < tk) = false := decide_eq_false c1
    rw [if_neg c1] at HB
    have t1 : IntKind.i64.wrap ((d : Int) - tk) = (d : Int) - tk := by rw [IntKind.wrap_i64]; omega
    have t2 : IntKind.i64.wrap ((d : Int) - tk + pt) = (d : Int) - tk + pt := by rw [IntKind.wrap_i64]; omega
    obtain ⟨q, hq⟩ : ∃ q : Nat, (d : Int) - tk + pt = (q : Int) := ⟨((d : Int) - tk + pt).toNat, by omega⟩
    rw [hq] at HB t2
    by_cases c2 : (q : Int) ≤ 64
    · rw [if_pos c2, Int.toNat_natCast] at HB
      go_wp2_with fail
      go_ret2
      exact ⟨⟨q, by rw [HB.out]; rfl, fun d' e => by rw [HB.out] at e; cases e; rfl⟩, BF.out⟩
    · rw [if_neg c2] at HB
      go_wp2_with fail
      go_ret2
      exact ⟨⟨q, by rw [HB.out]; rfl, fun d' e => by rw [HB.out] at e; cases e⟩, BF.out⟩
end Go.Proofs.YtfkhhplcogedmaaGreatDoor

/-
  Verify: what a routine's depths are, plain.
-/
namespace Go.Proofs.YtfkhhplcogedmaaGreatDoor
/-- The first of so many, if there is one. -/
def Fst (n : Nat) (P : Nat → Prop) : Option Nat → Prop
  | none => ∀ i, i < n → ¬ P i
  | some i => i < n ∧ P i ∧ ∀ j, j < i → ¬ P j
theorem Fst.unique {n : Nat} {P P' : Nat → Prop} {o o' : Option Nat} (h : Fst n P o) (h' : Fst n P' o') (hp : ∀ i, i < n → (P i ↔ P' i)) : o = o' := by
  cases o with
  | none =>
    cases o' with
    | none => rfl
    | some i => exact absurd ((hp i h'.1).2 h'.2.1) (h i h'.1)
  | some i =>
    cases o' with
    | none => exact absurd ((hp i h.1).1 h.2.1) (h' i h.1)
    | some j =>
      congr 1
      apply Classical.byContradiction
      intro c
      rcases Nat.lt_or_gt_of_ne c with c | c
      · exact h'.2.2 i c ((hp i h.1).1 h.2.1)
      · exact h.2.2 j c ((hp j h'.1).2 h'.2.1)
section
variable {eJ eS eE : Int} {fs : List Rt} {c : List Ins}
/-- A place is reached. -/
def Rcd (fs : List Rt) (c : List Ins) (p : Nat) : Prop := ∃ d, Rch fs c p d
/-- The stack is wrong there. -/
def Bad (fs : List Rt) (c : List Ins) (p : Nat) : Prop := (∃ d, Rch fs c p d ∧ behI fs c p d = none) ∨ ∃ d d', Rch fs c p d ∧ Rch fs c p d' ∧ d ≠ d'
open Classical in
/-- What is wrong with an instruction that is reached. -/
noncomputable def wrR (eJ eS eE : Int) (fs : List Rt) (c : List Ins) (p : Nat) : Int :=
  if isJ (iat c p) && !thereI c (iat c p).a then eJ else if Bad fs c p then eS else if (onwI c p).length < (nextI c p).length then eE else 0
theorem wrR_eq {p : Nat} {ds : List Nat} (hd : ∀ d, d ∈ ds ↔ Rch fs c p d) (hn : ds.Nodup) (h0 : ds ≠ []) : wrgI eJ eS eE fs c p ds = wrR eJ eS eE fs c p := by
  unfold wrgI wrR
  congr 1
  have : ((behI fs c p (ds.headD 0)).isNone || decide (1 < ds.length)) = true ↔ Bad fs c p := by
    cases ds with
    | nil => exact absurd rfl h0
    | cons d t =>
      have hd0 : Rch fs c p d := (hd d).1 (by simp)
      rw [Bool.or_eq_true, decide_eq_true_iff, Option.isNone_iff_eq_none, List.headD_cons]
      constructor
      · rintro (e | e)
        · exact .inl ⟨d, hd0, e⟩
        · cases t with
          | nil => simp at e
          | cons d' t =>
            refine .inr ⟨d, d', hd0, (hd d').1 (by simp), ?_⟩
            intro e'
            rw [List.nodup_cons] at hn
            exact hn.1 (by simp [e'])
      · rintro (⟨d', h1, h2⟩ | ⟨d1, d2, h1, h2, h3⟩)
        · by_cases e : d' = d
          · exact .inl (e ▸ h2)
          · right
            have := (hd d').2 h1
            rw [List.mem_cons] at this
            rcases this with h | h
            · exact absurd h e
            · cases t with
              | nil => cases h
              | cons _ _ => simp
        · right
          have k1 := (hd d1).2 h1
          have k2 := (hd d2).2 h2
          rw [List.mem_cons] at k1 k2
          cases t with
          | cons _ _ => simp
          | nil =>
            simp only [List.not_mem_nil, or_false] at k1 k2
            exact absurd (k1.trans k2.symm) h3
  by_cases e : Bad fs c p
  · rw [if_pos (this.2 e), if_pos e]
  · rw [if_neg (fun e' => e (this.1 e')), if_neg e]
open Classical in
/-- The depth of a place, -1 where nobody comes. -/
noncomputable def dpR (fs : List Rt) (c : List Ins) (p : Nat) : Int := if h : Rcd fs c p then (h.choose : Int) else -1
theorem dpR_of {p d : Nat} (h : Rch fs c p d) (hb : ¬ Bad fs c p) : dpR fs c p = (d : Int) := by
  have hr : Rcd fs c p := ⟨d, h⟩
  unfold dpR
  rw [dif_pos hr]
  have := hr.choose_spec
  apply Classical.byContradiction
  intro e
  exact hb (.inr ⟨_, _, this, h, fun e' => e (by rw [e'])⟩)
theorem dpR_no {p : Nat} (h : ¬ Rcd fs c p) : dpR fs c p = -1 := by
  unfold dpR
  rw [dif_neg h]
theorem dpR_ge {p : Nat} : (0 ≤ dpR fs c p) ↔ Rcd fs c p := by
  unfold dpR
  by_cases h : Rcd fs c p
  · rw [dif_pos h]
    exact ⟨fun _ => h, fun _ => by omega⟩
  · rw [dif_neg h]
    exact ⟨fun e => by omega, fun e => absurd e h⟩
/-- What the depths of a routine come to: which instruction is the first that is wrong. -/
def Dpo (eJ eS eE : Int) (fs : List Rt) (c : List Ins) (o : Option Nat) : Prop := Fst c.length (fun p => Rcd fs c p ∧ wrR eJ eS eE fs c p ≠ 0) o
theorem wrR_ok {p d : Nat} (hJ : eJ ≠ 0) (hS : eS ≠ 0) (hE : eE ≠ 0) (hr : Rch fs c p d) (h : wrR eJ eS eE fs c p = 0) : ¬ Bad fs c p ∧ dpR fs c p = (d : Int) ∧ (isJ (iat c p) = true → thereI c (iat c p).a = true) ∧ (∃ d', behI fs c p d = some d') ∧ ∀ x ∈ nextI c p, 0 ≤ x ∧ x < c.length := by
  have hb : ¬ Bad fs c p := fun e => by
    unfold wrR at h
    by_cases h1 : (isJ (iat c p) && !thereI c (iat c p).a) = true
    · rw [if_pos h1] at h
      exact hJ h
    · rw [if_neg h1, if_pos e] at h
      exact hS h
  have hd : ∀ x, x ∈ [d] ↔ Rch fs c p x := fun x => by
    rw [List.mem_singleton]
    constructor
    · intro e
      exact e ▸ hr
    · intro e
      apply Classical.byContradiction
      intro e'
      exact hb (.inr ⟨x, d, e, hr, e'⟩)
  have := wrR_eq (eJ := eJ) (eS := eS) (eE := eE) hd (by simp) (by simp)
  rw [h] at this
  obtain ⟨h1, -, h3, h4⟩ := wrgI_ok hJ hS hE this
  exact ⟨hb, dpR_of hr hb, h1, h3, h4⟩
end
end Go.Proofs.YtfkhhplcogedmaaGreatDoor
