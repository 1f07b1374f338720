import Derived.Test.YtfbhoemfabgjpaaGreatMgAH
import Derived.Test.YtfbhoemfabgjpaaGreatMgAD
/-
  World: parts are laid down as those of an entity.
-/
namespace Go.Proofs.YtfbhoemfabgjpaaGreat
open Go.RowKit
set_option maxRecDepth 100000
def ptV (p : Pt) : Value := .slice p.2.1 p.2.2.1 p.2.2.2
theorem Iz.later {w w' : World} {v : Value} {l : List Int} (h : Iz w v l) (hb : Below w.heap.size w w') : Iz w' v l := h.frame (Mv.of_below hb (fun _ => False)) (fun _ _ e => e)
theorem own_part {w : World} {B g n c : Nat} {l : List Pt} (h : w.ownsRow B 51 2 (.slice (some ⟨g, 0, none⟩) n c) n (pz l)) (i : Nat) (hi : i < l.length) :
    w.cell? ⟨g, i * 2, none⟩ = some (.int .i64 l[i].1) ∧ w.cell? ⟨g, i * 2 + 1, none⟩ = some (ptV l[i]) := by
  have hl := h.1
  rw [pz_len] at hl
  rw [h.cellAt (i * 2) (by omega), h.cellAt (i * 2 + 1) (by omega)]
  exact pz_at l i hi
/-- One more part's values behind those of the parts ahead. -/
theorem flat_push (V : Pt → List Int) (l : List Pt) (i : Nat) (hi : i < l.length) : (l.take (i + 1)).flatMap V = (l.take i).flatMap V ++ V l[i] := by
  rw [List.take_succ_eq_append_getElem hi, List.flatMap_append]
  simp
theorem set_push (l : List Pt) (i : Nat) (hi : i < l.length) : setOf (l.take (i + 1)) = setOf (l.take i) ||| 2 ^ (l[i].1.toNat) := by
  rw [List.take_succ_eq_append_getElem hi, setOf_push]
theorem flat_le (V : Pt → List Int) (l : List Pt) (i : Nat) : ((l.take i).flatMap V).length ≤ (l.flatMap V).length := by
  conv => rhs; rw [← List.take_append_drop i l]
  rw [List.flatMap_append, List.length_append]
  omega
theorem shl_small : ∀ k : Fin 13, wrap64 ((2 : Int) ^ k.val) = ((2 ^ k.val : Nat) : Int) := by decide +kernel
theorem or_set (S k : Nat) (hS : S < 8192) (hk : k ≤ 12) : bits .or .i64 (S : Int) (wrap64 ((2 : Int) ^ k)) = ((S ||| 2 ^ k : Nat) : Int) := by
  rw [shl_small ⟨k, by omega⟩]
  have : 2 ^ k ≤ 2 ^ 12 := Nat.pow_le_pow_right (by omega) hk
  exact i64_or_nat S (2 ^ k) (by omega) (by omega)
/-- Numbers of one's own, read. -/
theorem Iz.own {w : World} {v : Value} {l : List Int} {B : Nat} (h : w.ownsRow B 2 1 v l.length (zc l)) : Iz w v l := by
  rcases h.2 with ⟨rfl, hl⟩ | ⟨g, c, cur, rfl, -, hg, h1, h2, hcs, htake⟩
  · obtain rfl := List.eq_nil_of_length_eq_zero hl
    exact ⟨none, 0, rfl, Nat.le_refl _, Nat.zero_le _, fun j hj => absurd hj (by simp)⟩
  · exact ⟨_, c, rfl, h1, h2, fun j hj => ⟨g, 0, rfl, by rw [Nat.zero_add]; exact own_num h j hj⟩⟩
theorem add_wx {w : World} {own : Nat → Nat} {gw gp gm gt M s g : Nat} {vk : Value} {ks : List Kind} {gs fr : List Nat} {f : Int × Int → Option Nat} {q : Nat → Option Nat} {T : Nat → Ts} (h : Wx 0 w own gw vk gp gm gt M ks gs fr f q T) (a b : Int) (hib : InB (a, b)) (v : Value) (vals : List Int) (hv : Iz w v vals) (hvl : ∀ k, v.ownBlock = some k → own k = 0 ∧ k < w.heap.size) (hq : q s = some g) (hl : vals.length = (T s).2.length) (hne : (a, b) ∉ (T s).1) (h200 : (T s).1.length < 200) (hM : M ≤ 1000000) :
    Calls Tryz.prog 92 #[.pointer (some ⟨g, 0, none⟩), .agg #[.int .i64 a, .int .i64 b], v] w fun e w' => (∃ r : Int, e = .returned (.tuple #[.int .i64 r, .int .i64 0])) ∧ Wx 0 w' (rel own w (10 + s)) gw vk gp gm gt (M + 1) ks gs fr f q (fun x => if x = s then ((T s).1 ++ [(a, b)], addRow (T s).2 vals) else T x) ∧ Mv w w' (Lb own w (10 + s)) := by
  obtain ⟨n, hn, ht⟩ := h.tb hq
  refine (add_any ht a b v vals hv (fun k e => ⟨fun e' => by have := e'.2; rw [(hvl k e).1] at this; omega, (hvl k e).2⟩) hl hib hne h200 (by omega)).mono ?_
  rintro e w' ⟨rfl, h1, h2⟩
  exact ⟨⟨_, rfl⟩, h.table h2 hq (t := ((T s).1 ++ [(a, b)], addRow (T s).2 vals)) ⟨n + 1, by omega, h1⟩ (by omega), h2⟩
def baseT (q : Nat → Option Nat) (T : Nat → Ts) (s n : Nat) : Ts := if (q s).isSome then T s else ([], List.replicate n [])
def moreT (q : Nat → Option Nat) (T : Nat → Ts) (s : Nat) (e : Int × Int) (vals : List Int) : Nat → Ts := fun x => if x = s then ((baseT q T s vals.length).1 ++ [e], addRow (baseT q T s vals.length).2 vals) else T x
section
variable {w w' : World} {own : Nat → Nat} {gw gp gm gt M M' : Nat} {vk : Value} {ks : List Kind} {gs fr gs' fr' : List Nat} {f f' : Int × Int → Option Nat} {q q' : Nat → Option Nat} {T T' : Nat → Ts}
set_option maxHeartbeats 4000000 in
theorem put_any (h : Wx 0 w own gw vk gp gm gt M ks gs fr f q T) (a b : Int) (hib : InB (a, b)) (v : Value) (l : List Pt) (V : Pt → List Int) (hv : Rp w v l) (h12 : l.length ≤ 12) (hV : ∀ p ∈ l, Iz w (ptV p) (V p) ∧ (p.2.1 = none → p.2.2 = (0, 0))) (hkd : ∀ p ∈ l, 1 ≤ p.1 ∧ p.1 ≤ 12) (h48 : (l.flatMap V).length ≤ 48) (hM : M ≤ 900000) (hqs : ∀ g, q (setOf l) = some g → (a, b) ∉ (T (setOf l)).1 ∧ (T (setOf l)).1.length < 200 ∧ (l.flatMap V).length = (T (setOf l)).2.length) :
    Calls Tryz.prog 67 #[.pointer (some ⟨gw, 0, none⟩), .agg #[.int .i64 a, .int .i64 b], v] w fun e w' => e = .returned (.tuple #[]) ∧ ∃ (l' : List Pt) (g : Nat) (own' : Nat → Nat), l'.Perm l ∧ l'.Pairwise (fun x y => x.1 ≤ y.1) ∧ Wx 0 w' own' gw vk gp gm gt (M + 3) ks gs fr (fun x => if x = (a, b) then some (setOf l) else f x) (fun x => if x = setOf l then some g else q x) (moreT q T (setOf l) (a, b) (l'.flatMap V)) ∧ Wk own own' w w' := by
  obtain ⟨i2, hi2, hz0, hz1, hz2⟩ := info_parts info2
  have H := hide h
  obtain ⟨ao, n, c, rfl⟩ : ∃ ao n c, v = .slice ao n c := by
    rcases hv with ⟨rfl, -⟩ | ⟨g, o, c, rfl, -⟩
    · exact ⟨_, _, _, rfl⟩
    · exact ⟨_, _, _, rfl⟩
  have B0 := below_alloc w (.cells #[.int .i64 a, .int .i64 b] 34)
  have JC := hide (clone_parts _ l (w.alloc (.cells #[.int .i64 a, .int .i64 b] 34)) (hv.later B0) (by omega))
  have HV := hide hV
  have HK := hide hkd
  have HQS := hide hqs
  clear h hv hV hkd hqs
  go_enter Tryz.func67, Tryz.ntmps67
  go_wp2_with fail
  refine JC.out.mono ?_
  rintro e w1 ⟨v1, rfl, ho1, b1⟩
  have B1 := hide (below_on B0 b1)
  have HX1 : Hid (w1.heap[w.heap.size]? = some (.cells #[.int .i64 a, .int .i64 b] 34 (0, 0))) := (b1.block w.heap.size (by simp)).trans (heap_alloc_new w _)
  have O1 : Hid (w1.ownsRow (w.heap.size + 1) 51 2 v1 l.length (pz l)) := by simpa [Hid] using ho1
  have JS := hide (sort_any (own_lower ho1 (Nat.zero_le _)) h12)
  obtain ⟨a1, c1, rfl⟩ := own_len ho1
  clear JC ho1 b1 B0
  go_wp2_with fail
  refine JS.out.mono ?_
  rintro e w2 ⟨rfl, l', hperm, hsort, ho2, hg2⟩
  clear JS
  have hlen := hperm.length_eq
  have h48' : (l'.flatMap V).length ≤ 48 := by rw [(hperm.flatMap_right V).length_eq]; exact h48
  have hib1 : ∀ k, (Value.slice a1 l.length c1).ownBlock = some k → w.heap.size + 1 ≤ k := fun k e => (O1.out.lt k e).1
  have B2 : Hid (Below w.heap.size w w2) := B1.out.grown hg2 B1.out.size (fun k e => by have := hib1 k e; omega)
  have HX2 : Hid (w2.heap[w.heap.size]? = some (.cells #[.int .i64 a, .int .i64 b] 34 (0, 0))) := (hg2.block _ (lt_of_block HX1.out) (fun e => by have := hib1 _ e.symm; omega)).trans HX1.out
  rw [← hlen] at ho2 h12 ⊢
  have O2 := hide ho2
  have HP := hide hperm
  have HS := hide hsort
  have HL := hide hlen
  have HM := hide h48'
  have HV2 : Hid (∀ p ∈ l', Iz w (ptV p) (V p) ∧ (p.2.1 = none → p.2.2 = (0, 0))) := fun p hp => HV.out p (hperm.mem_iff.1 hp)
  have HK2 : Hid (∀ p ∈ l', 1 ≤ p.1 ∧ p.1 ≤ 12) := fun p hp => HK.out p (hperm.mem_iff.1 hp)
  obtain ⟨kx, hkx⟩ : ∃ k, k = w.heap.size := ⟨_, rfl⟩
  rw [← hkx] at HX2 ⊢
  have HKB : Hid (w.heap.size ≤ kx ∧ w.heap.size ≤ w2.heap.size) := ⟨by omega, B2.out.size⟩
  clear ho2 hg2 hib1 hperm hsort hlen HX1 B1 O1 h48 h48' HV HK hkx
  obtain ⟨hc1, hc2⟩ := own_cap O2.out
  go_wp2_with fail
  go_loopw [7, 8, 19] (fun v7 v8 v19 W => ∃ i : Nat, i ≤ l'.length ∧ v19 = .int .i64 (i : Int) ∧ v7 = .int .i64 ((setOf (l'.take i) : Nat) : Int) ∧ Hid (Below w2.heap.size w2 W) ∧ Hid (W.ownsRow w2.heap.size 2 1 v8 ((l'.take i).flatMap V).length (zc ((l'.take i).flatMap V)))) (fun _ _ v19 _ => l'.length - (intOf v19).toNat)
  case atStart => exact ⟨0, Nat.zero_le _, rfl, rfl, Below.refl _ _, World.ownsRow_nil _ _ _ _⟩
  case round =>
    obtain ⟨i, hil, rfl, rfl, HB, HO⟩ := hrel
    by_cases hlt : i < l'.length
    · have t1 : (i : Int) < (l'.length : Int) := by omega
      have hP := own_later O2.out HB.out
      obtain ⟨gr, c', ee, -, -⟩ := own_form hP (by omega)
      simp only [Value.slice.injEq] at ee
      obtain ⟨rfl, -, rfl⟩ := ee
      obtain ⟨e1, e2⟩ := own_part hP i hlt
      obtain ⟨hiz, hnil⟩ := HV2.out l'[i] (List.getElem_mem hlt)
      have hkk := HK2.out l'[i] (List.getElem_mem hlt)
      have hs1 := hide (set_push l' i hlt)
      have hf1 := hide (flat_push V l' i hlt)
      have hfl := Nat.le_trans (flat_le V l' (i + 1)) HM.out
      have hsl : setOf (l'.take i) < 8192 := setOf_lt _ (fun p hp => HK2.out p (List.mem_of_mem_take hp))
      rw [hf1.out, List.length_append] at hfl
      generalize setOf (l'.take i) = S at *
      generalize (l'.take i).flatMap V = F at *
      have hiz := hiz.later (below_on B2.out HB.out)
      generalize V l'[i] = N at *
      generalize l'[i] = p at *
      obtain ⟨x, av, nv, cv⟩ := p
      obtain ⟨k, rfl⟩ : ∃ k : Nat, x = (k : Int) := ⟨x.toNat, by have := hkk.1; dsimp only at this; omega⟩
      have hk1 : 1 ≤ k ∧ k ≤ 12 := by dsimp only at hkk; omega
      obtain ⟨ao3, c3, rfl⟩ := own_len HO.out
      unfold ptV at *
      dsimp only at e1 e2 hiz hnil hkk hs1
      have t2 : ¬ (k : Int) < 0 := by omega
      have hsz := HB.out.size
      clear hP hkk
      rw [Int.toNat_natCast] at hs1
      have HOR := hide (or_set S k hsl hk1.2)
      have HA : Hid (∀ (v' : Value) (w' : World), w'.ownsRow w2.heap.size 2 1 v' (F.length + N.length) (zc F ++ zc N) → (wr.alloc (.cells #[.int .i64 (k : Int), .slice av nv cv] 51)).grownBy w' (Value.slice ao3 F.length c3).ownBlock → Below w2.heap.size w2 w' ∧ w'.ownsRow w2.heap.size 2 1 v' ((l'.take (i + 1)).flatMap V).length (zc ((l'.take (i + 1)).flatMap V))) := fun v' w' g1 g2 => by
        refine ⟨(below_on HB.out (below_alloc wr _)).grown g2 (by simp; omega) (fun k e => (HO.out.lt k e).1), ?_⟩
        rw [hf1.out, List.length_append, zc_append]
        exact g1
      clear hf1
      cases av with
      | none =>
        obtain ⟨rfl, rfl⟩ : nv = 0 ∧ cv = 0 := by simpa using hnil rfl
        obtain rfl : N = [] := by
          obtain ⟨ao', c', e', -⟩ := hiz
          simp only [Value.slice.injEq] at e'
          exact List.eq_nil_of_length_eq_zero e'.2.1.symm
        clear hiz hnil
        go_wp2_with (at_builtin; refine wpList_append_own_none rfl _ _ 35 rfl w2.heap.size 2 i2 1 Tryz.underlying35 hi2 _ _ _ rfl (HO.out.alloc _) rfl ?_)
        go_wp2_with fail
        go_roundw
        case rel =>
          obtain ⟨k1, k2⟩ := HA.out _ _ (by simpa [zc] using HO.out.alloc (.cells #[.int .i64 (k : Int), .slice none 0 0] 51)) ⟨rfl, rfl, rfl, Nat.le_refl _, fun _ _ _ => rfl⟩
          exact ⟨i + 1, by omega, by go_num, by rw [hs1.out]; exact val_int HOR.out, k1, k2⟩
        case measure => simp [intOf]; omega
      | some ad =>
        have hN : nv = N.length ∧ ∀ j u, (zc N)[j]? = some u → (wr.alloc (.cells #[.int .i64 (k : Int), .slice (some ad) nv cv] 51)).cell? (ad.add j) = some u := by
          obtain ⟨ao', c', e', z1, z2, z3⟩ := hiz
          simp only [Value.slice.injEq] at e'
          obtain ⟨rfl, e'2, rfl⟩ := e'
          refine ⟨e'2, fun j u hj => ?_⟩
          have hj2 : j < N.length := by
            have := (List.getElem?_eq_some_iff.1 hj).1
            rwa [zc_len] at this
          rw [zc_at N j hj2] at hj
          obtain ⟨g', o', e3, z4⟩ := z3 j hj2
          obtain rfl := Option.some.inj e3
          rw [add_at, ← Option.some.inj hj]
          exact ((below_alloc wr _).cell (p := ⟨g', o' + j, none⟩) (World.block_lt_of_cell? wr _ z4)).trans z4
        obtain ⟨rfl, hN2⟩ := hN
        have HN2 := hide hN2
        clear hiz hnil hN2
        go_wp2_with (at_builtin; refine wpList_append_own_at _ rfl _ _ 35 rfl w2.heap.size 2 i2 (.int .i64 0) 1 8 Tryz.underlying35 hi2 hz0 hz1 hz2 rfl (by decide) _ F.length (zc F) rfl (HO.out.alloc _) ad N.length cv (zc N) rfl (by rw [zc_len]; omega) HN2.out (zc_one N) (by unfold maxLen; omega) (by omega) (by simp; omega) ?_)
        intro v' w' ho hg _ _
        obtain ⟨k1, k2⟩ := HA.out _ _ ho hg
        have K1 := hide k1
        have K2 := hide k2
        clear ho hg k1 k2 HA HN2
        go_wp2_with fail
        go_roundw
        case rel => exact ⟨i + 1, by omega, by go_num, by rw [hs1.out]; exact val_int HOR.out, K1, K2⟩
        case measure => simp [intOf]; omega
    · obtain rfl : i = l'.length := by omega
      have ho := HO.out
      rw [List.take_length] at ho ⊢
      have hsl := setOf_lt l' HK2.out
      obtain ⟨a8, c8, rfl⟩ := own_len ho
      have O8 := hide ho
      have t1 : ¬ (l'.length : Int) < (l'.length : Int) := by omega
      have B3 : Hid (Below w.heap.size w wr) := below_on B2.out HB.out
      have HX3 : Hid (wr.heap[kx]? = some (.cells #[.int .i64 a, .int .i64 b] 34 (0, 0))) := (HB.out.block kx (lt_of_block HX2.out)).trans HX2.out
      clear ho HO HB HX2 B2 O2 HV2
      have hsp : setOf l' = setOf l := setOf_perm HP.out
      have hfp : (l'.flatMap V).length = (l.flatMap V).length := (HP.out.flatMap_right V).length_eq
      have hqs := HQS.out
      rw [← hsp, ← hfp] at hqs
      obtain ⟨vals, hvals⟩ : ∃ X, X = l'.flatMap V := ⟨_, rfl⟩
      have HVL := hide hvals
      rw [← hvals] at hqs O8 ⊢
      have HQ2 := hide hqs
      obtain ⟨p0, p1⟩ := kx_cells HX3.out (Below.refl _ wr)
      have H4 : Hid (Wx 0 wr (rel own w 0) gw vk gp gm gt M ks gs fr f q T) := H.out.later B3.out
      have hkb : w.heap.size ≤ kx ∧ w.heap.size ≤ w2.heap.size := HKB.out
      have hgt : gt < w.heap.size := H.out.2.1.2
      have IZ8 : Hid (∀ W, Mv wr W (fun k => k = gt) → Iz W (.slice a8 (vals).length c8) (vals)) := fun W hW => Iz.own (hW.own O8.out (fun k e e2 => by have := (O8.out.lt k e).1; omega))
      have hob : ∀ k, (Value.slice a8 (vals).length c8).ownBlock = some k → w.heap.size ≤ k ∧ k < wr.heap.size := fun k e => ⟨Nat.le_trans hkb.2 (O8.out.lt k e).1, (O8.out.lt k e).2⟩
      have H5 : Hid (Wx 0 wr (rel own w 0) gw vk gp gm gt M ks gs fr f q T ∧ Wk own (rel own w 0) w wr ∧ (wr.heap[kx]? = some (.cells #[.int .i64 a, .int .i64 b] 34 (0, 0)) ∧ rel own w 0 kx = 0) ∧ Mv wr wr (fun k => k = gt) ∧ ∀ k, (Value.slice a8 (vals).length c8).ownBlock = some k → rel own w 0 k = 0 ∧ k < wr.heap.size) := ⟨H4.out, Wk.later B3.out, ⟨HX3.out, rel_new hkb.1⟩, Mv.refl _ _, fun k e => ⟨rel_new (hob k e).1, (hob k e).2⟩⟩
      have EV : Hid ((fun x => if x = (a, b) then some (setOf l) else f x) = (fun x => if x = (a, b) then some (setOf l') else f x) ∧ (∀ g : Nat, (fun x => if x = setOf l then some g else q x) = (fun x => if x = setOf l' then some g else q x)) ∧ moreT q T (setOf l) (a, b) (vals) = moreT q T (setOf l') (a, b) (vals)) := by rw [hsp]; exact ⟨rfl, fun _ => rfl, rfl⟩
      obtain ⟨c0, c1', c2, c3⟩ := H4.out.cells
      obtain ⟨v9, hlk, hv9⟩ := H4.out.mq.look (setOf l') (by omega)
      clear hqs hfp HQS hob hsp hvals
      cases hq : q (setOf l') with
      | some g =>
        obtain rfl := hv9 g hq
        rw [hq] at hlk
        obtain ⟨n1, n2, n3⟩ := HQ2.out g hq
        have HN := hide (And.intro n1 (And.intro n2 n3))
        simp only [Option.isSome_some] at hlk
        clear n1 n2 n3 hv9
        have HQq := hide hq
        clear hq
        go_upto_region 15 with fail
        have hq := HQq.out
        clear hlk c0 c1' c2 c3 H4
        have HI8 : Hid (Iz wr (.slice a8 (vals).length c8) (vals)) := IZ8.out _ H5.out.2.2.2.1
        have JA := hide (add_wx (s := setOf l') (g := g) H5.out.1 a b hib _ _ HI8.out H5.out.2.2.2.2 hq HN.out.2.2 HN.out.1 HN.out.2.1 (by omega))
        go_wp2_with fail
        refine JA.out.mono ?_
        rintro e w7 ⟨⟨r7, rfl⟩, h7, m7⟩
        have k7 : Wk own (rel (rel own w 0) wr (10 + setOf l')) w w7 := H5.out.2.1.trans (Wk.of m7 (fun k _ e => by have := e.2; omega))
        have x7 : w7.heap[kx]? = some (.cells #[.int .i64 a, .int .i64 b] 34 (0, 0)) ∧ rel (rel own w 0) wr (10 + setOf l') kx = 0 := ⟨m7.at H5.out.2.2.1.1 (fun e => by have := e.2; rw [H5.out.2.2.1.2] at this; omega), (rel_old (lt_of_block H5.out.2.2.1.1)).trans H5.out.2.2.1.2⟩
        have h8 := h7.later (below_drew w7)
        obtain ⟨w9, hst, hmp9, htn9⟩ := h8.mp.store (a, b) hib (setOf l') (by omega) (by omega)
        have h9 := h8.sets htn9 hmp9 (by omega)
        have k9 := (k7.trans (Wk.later (L := 0) (below_drew w7))).trans (Wk.of (L := 4) (mv_turned htn9) (fun k _ e => by rw [e, h8.1.2.1]; decide))
        obtain ⟨-, -, c2, -⟩ := h8.cells
        obtain ⟨z0, z1⟩ := kx_cells x7.1 (below_drew w7)
        obtain ⟨-, -, y2, -⟩ := h9.cells
        have hne : ¬ kx = gm := fun e => by have h1 := h7.1.2.1; rw [← e, x7.2] at h1; omega
        obtain ⟨y0, y1⟩ := kx_cells ((mv_turned htn9).at (w := w7.drew) x7.1 hne) (Below.refl _ w9)
        have H9 := hide h9
        have K9 := hide k9
        dsimp only at hst
        clear h7 m7 k7 x7 h8 hmp9 htn9 h9 k9 hne JA HI8
        go_upto_region 16 with fail
        refine wp_region_noPanic ?_
        refine wp_region_late (J := fun i => i != 99) (S := fun W => W.cell? ⟨gw, 2, none⟩ = some (.map (some gm)) ∧ W.cell? ⟨kx, 0, none⟩ = some (.int .i64 a) ∧ W.cell? ⟨kx, 1, none⟩ = some (.int .i64 b)) (by kernel_rfl) ⟨c2, z0, z1⟩ (fun hHeld => ?_)
        refine' wpAnyJ_takeW (i := 0) (oi := { dst := some 60, op := Op.move (Operand.tmp 0), type := 26, pos := "world.go:226", after := #[], guard := none }) (v := _) rfl (by kernel_rfl) (by kernel_rfl) (by kernel_rfl) (fun _ _ _ h => h) (Or.inl ⟨by rfl, ?hyA1⟩) ?reA1
        case hyA1 => (intro W hSw; (try dsimp only at hSw); go_simp; try with_reducible rfl)
        try simp only [Act.put, List.setIfInBounds_toArray, List.set_cons_zero, List.set_cons_succ]
        refine' wpAnyJ_takeW (i := 1) (oi := { dst := some 61, op := Op.nilCheck (Operand.tmp 60), type := 0, pos := "world.go:226", after := #[{ on := 0, ground := Ground.data }], guard := none }) (v := _) rfl (by kernel_rfl) (by kernel_rfl) (by kernel_rfl) (fun _ _ _ h => h) (Or.inl ⟨by rfl, ?hyA2⟩) ?reA2
        case hyA2 => (intro W hSw; (try dsimp only at hSw); go_simp; try with_reducible rfl)
        try simp only [Act.put, List.setIfInBounds_toArray, List.set_cons_zero, List.set_cons_succ]
        refine' wpAnyJ_takeW (i := 2) (oi := { dst := some 62, op := Op.fieldAddr 64 (Operand.tmp 61) 2, type := 0, pos := "world.go:226", after := #[{ on := 1, ground := Ground.data }], guard := none }) (v := _) rfl (by kernel_rfl) (by kernel_rfl) (by kernel_rfl) (fun _ _ _ h => h) (Or.inl ⟨by rfl, ?hyA3⟩) ?reA3
        case hyA3 => (intro W hSw; (try dsimp only at hSw); go_simp; try with_reducible rfl)
        try simp only [Act.put, List.setIfInBounds_toArray, List.set_cons_zero, List.set_cons_succ]
        refine' wpAnyJ_take (i := 3) (oi := { dst := some 63, op := Op.load 61 (Operand.tmp 62), type := 61, pos := "world.go:226", after := #[{ on := 2, ground := Ground.data }], guard := none }) (v := _) rfl (by kernel_rfl) (by kernel_rfl) (by kernel_rfl) (by kernel_rfl) (fun _ _ _ h => h) (Or.inl ⟨by rfl, ?hyA4⟩) (by assumption) ?reA4
        case hyA4 => (intro W hSw; (try dsimp only at hSw); go_simp; try with_reducible rfl)
        try simp only [Act.put, List.setIfInBounds_toArray, List.set_cons_zero, List.set_cons_succ]
        refine' wpAnyJ_take (i := 4) (oi := { dst := some 64, op := Op.load 34 (Operand.tmp 4), type := 34, pos := "world.go:226", after := #[], guard := none }) (v := _) rfl (by kernel_rfl) (by kernel_rfl) (by kernel_rfl) (by kernel_rfl) (fun _ _ _ h => h) (Or.inl ⟨by rfl, ?hyA5⟩) (by assumption) ?reA5
        case hyA5 => (intro W hSw; (try dsimp only at hSw); go_simp; try with_reducible rfl)
        try simp only [Act.put, List.setIfInBounds_toArray, List.set_cons_zero, List.set_cons_succ]
        refine' wpAnyJ_takeW (i := 5) (oi := { dst := some 65, op := Op.move (Operand.tmp 7), type := 3, pos := "world.go:226", after := #[], guard := none }) (v := _) rfl (by kernel_rfl) (by kernel_rfl) (by kernel_rfl) (fun _ _ _ h => h) (Or.inl ⟨by rfl, ?hyA6⟩) ?reA6
        case hyA6 => (intro W hSw; (try dsimp only at hSw); go_simp; try with_reducible rfl)
        try simp only [Act.put, List.setIfInBounds_toArray, List.set_cons_zero, List.set_cons_succ]
        refine wpAnyJ_ready (rs := [6]) (by kernel_rfl) (by simp) ?_
        refine AllReadyJ.cons (o := { dst := none, op := Op.mapUpdate 61 (Operand.tmp 63) (Operand.tmp 64) (Operand.tmp 65), type := 0, pos := "world.go:226", after := #[{ on := 3, ground := Ground.data }, { on := 4, ground := Ground.data }, { on := 5, ground := Ground.data }, { on := 0, ground := Ground.phase }, { on := 1, ground := Ground.phase }, { on := 2, ground := Ground.phase }, { on := 3, ground := Ground.phase }, { on := 4, ground := Ground.phase }, { on := 5, ground := Ground.phase }], guard := none }) rfl (fun K hK => ?_) AllReadyJ.nil
        go_simp
        refine hK.out _ _ (fun _ _ => ⟨y2, y0, y1⟩) ?_
        clear hK K
        try simp only [Act.put, List.setIfInBounds_toArray, List.set_cons_zero, List.set_cons_succ]
        refine wpAnyJ_done (by kernel_rfl) ?_ _
        refine NoPanic.normal ?_
        go_wp2_with fail
        go_end0
        refine ⟨rfl, l', g, _, HP.out, HS.out, ?_, K9.out⟩
        have eq1 : (fun x => if x = setOf l' then some g else q x) = q := by
          funext x
          by_cases e : x = setOf l'
          · rw [if_pos e, e, hq]
          · rw [if_neg e]
        have eq2 : moreT q T (setOf l') (a, b) (vals) = fun x => if x = setOf l' then ((T (setOf l')).1 ++ [(a, b)], addRow (T (setOf l')).2 (vals)) else T x := by
          unfold moreT baseT
          rw [hq]
          rfl
        rw [← HVL.out, EV.out.1, EV.out.2.1, EV.out.2.2, eq1, eq2]
        have hfin := H9.out.up (M' := M + 3) (by omega)
        exact hfin
      | none =>
        rw [hq] at hlk
        have HQq := hide hq
        simp only [Option.isSome_none] at hlk
        have JN := hide (new_any vals.length wr (by rw [HVL.out]; exact HM.out))
        clear hq hv9
        go_wp2_with fail
        refine JN.out.mono ?_
        rintro e w4 ⟨g, rfl, ht4, b4⟩
        clear JN hlk
        obtain ⟨w5, hst, hmq5, htn5⟩ := (H5.out.1.mq.same (b4.block gt (Nat.lt_of_lt_of_le hgt B3.out.size))).store (setOf l') g (by omega) (by omega)
        have h5 := H5.out.1.more (s := setOf l') b4 (t := ([], List.replicate vals.length [])) ⟨0, by omega, ht4⟩ (Nat.le_succ M) HQq.out htn5 hmq5
        have hm5 : Mv wr w5 (fun k => k = gt) := (Mv.of_below b4 _).trans (mv_turned htn5) (fun k _ e => e)
        have hnk : ¬ kx = gt := by omega
        have H6 : Hid (Wx 0 w5 (rel (rel (rel own w 0) wr (10 + setOf l')) w4 5) gw vk gp gm gt (M + 1) ks gs fr f (fun x => if x = setOf l' then some g else q x) (fun x => if x = setOf l' then ([], List.replicate vals.length []) else T x) ∧ Wk own (rel (rel (rel own w 0) wr (10 + setOf l')) w4 5) w w5 ∧ (w5.heap[kx]? = some (.cells #[.int .i64 a, .int .i64 b] 34 (0, 0)) ∧ rel (rel (rel own w 0) wr (10 + setOf l')) w4 5 kx = 0) ∧ Mv wr w5 (fun k => k = gt) ∧ ∀ k, (Value.slice a8 vals.length c8).ownBlock = some k → rel (rel (rel own w 0) wr (10 + setOf l')) w4 5 k = 0 ∧ k < w5.heap.size) := by
          have l1 : ∀ k, k < wr.heap.size → rel own w 0 k = 0 → rel (rel (rel own w 0) wr (10 + setOf l')) w4 5 k = 0 := fun k hk e => by
            rw [rel_old (Nat.lt_of_lt_of_le hk b4.size), rel_old hk, e]
          refine ⟨h5, (H5.out.2.1.trans (Wk.later (L := 10 + setOf l') b4)).trans (Wk.of (mv_turned htn5) (fun k _ e => ?_)), ⟨hm5.at H5.out.2.2.1.1 hnk, l1 _ (lt_of_block H5.out.2.2.1.1) H5.out.2.2.1.2⟩, hm5, fun k e => ?_⟩
          · rw [e, rel_old (Nat.lt_of_lt_of_le hgt B3.out.size), H5.out.1.1.2.2]
            decide
          · obtain ⟨e1, e2⟩ := H5.out.2.2.2.2 k e
            exact ⟨l1 k e2 e1, Nat.lt_of_lt_of_le e2 hm5.size⟩
        obtain ⟨-, -, -, c3'⟩ := (H5.out.1.later b4).cells
        obtain ⟨p0', p1'⟩ := kx_cells H6.out.2.2.1.1 (Below.refl _ w5)
        clear ht4 b4 hmq5 htn5 h5 hm5 c0 c1' c2 c3 p0 p1
        go_upto_region 15 with fail
        clear hst c3'
        have HI8 : Hid (Iz w5 (.slice a8 (vals).length c8) (vals)) := IZ8.out _ H6.out.2.2.2.1
        have JA := hide (add_wx (s := setOf l') (g := g) H6.out.1 a b hib _ _ HI8.out H6.out.2.2.2.2 (by simp) (by simp) (by simp) (by simp) (by omega))
        go_wp2_with fail
        refine JA.out.mono ?_
        rintro e w7 ⟨⟨r7, rfl⟩, h7, m7⟩
        have k7 : Wk own (rel (rel (rel (rel own w 0) wr (10 + setOf l')) w4 5) w5 (10 + setOf l')) w w7 := H6.out.2.1.trans (Wk.of m7 (fun k _ e => by have := e.2; omega))
        have x7 : w7.heap[kx]? = some (.cells #[.int .i64 a, .int .i64 b] 34 (0, 0)) ∧ rel (rel (rel (rel own w 0) wr (10 + setOf l')) w4 5) w5 (10 + setOf l') kx = 0 := ⟨m7.at H6.out.2.2.1.1 (fun e => by have := e.2; rw [H6.out.2.2.1.2] at this; omega), (rel_old (lt_of_block H6.out.2.2.1.1)).trans H6.out.2.2.1.2⟩
        have h8 := h7.later (below_drew w7)
        obtain ⟨w9, hst, hmp9, htn9⟩ := h8.mp.store (a, b) hib (setOf l') (by omega) (by omega)
        have h9 := h8.sets htn9 hmp9 (by omega)
        have k9 := (k7.trans (Wk.later (L := 0) (below_drew w7))).trans (Wk.of (L := 4) (mv_turned htn9) (fun k _ e => by rw [e, h8.1.2.1]; decide))
        obtain ⟨-, -, c2, -⟩ := h8.cells
        obtain ⟨z0, z1⟩ := kx_cells x7.1 (below_drew w7)
        obtain ⟨-, -, y2, -⟩ := h9.cells
        have hne : ¬ kx = gm := fun e => by have h1 := h7.1.2.1; rw [← e, x7.2] at h1; omega
        obtain ⟨y0, y1⟩ := kx_cells ((mv_turned htn9).at (w := w7.drew) x7.1 hne) (Below.refl _ w9)
        have H9 := hide h9
        have K9 := hide k9
        dsimp only at hst
        clear h7 m7 k7 x7 h8 hmp9 htn9 h9 k9 hne JA HI8
        go_upto_region 16 with fail
        refine wp_region_noPanic ?_
        refine wp_region_late (J := fun i => i != 99) (S := fun W => W.cell? ⟨gw, 2, none⟩ = some (.map (some gm)) ∧ W.cell? ⟨kx, 0, none⟩ = some (.int .i64 a) ∧ W.cell? ⟨kx, 1, none⟩ = some (.int .i64 b)) (by kernel_rfl) ⟨c2, z0, z1⟩ (fun hHeld => ?_)
        refine' wpAnyJ_takeW (i := 0) (oi := { dst := some 60, op := Op.move (Operand.tmp 0), type := 26, pos := "world.go:226", after := #[], guard := none }) (v := _) rfl (by kernel_rfl) (by kernel_rfl) (by kernel_rfl) (fun _ _ _ h => h) (Or.inl ⟨by rfl, ?hyB1⟩) ?reB1
        case hyB1 => (intro W hSw; (try dsimp only at hSw); go_simp; try with_reducible rfl)
        try simp only [Act.put, List.setIfInBounds_toArray, List.set_cons_zero, List.set_cons_succ]
        refine' wpAnyJ_takeW (i := 1) (oi := { dst := some 61, op := Op.nilCheck (Operand.tmp 60), type := 0, pos := "world.go:226", after := #[{ on := 0, ground := Ground.data }], guard := none }) (v := _) rfl (by kernel_rfl) (by kernel_rfl) (by kernel_rfl) (fun _ _ _ h => h) (Or.inl ⟨by rfl, ?hyB2⟩) ?reB2
        case hyB2 => (intro W hSw; (try dsimp only at hSw); go_simp; try with_reducible rfl)
        try simp only [Act.put, List.setIfInBounds_toArray, List.set_cons_zero, List.set_cons_succ]
        refine' wpAnyJ_takeW (i := 2) (oi := { dst := some 62, op := Op.fieldAddr 64 (Operand.tmp 61) 2, type := 0, pos := "world.go:226", after := #[{ on := 1, ground := Ground.data }], guard := none }) (v := _) rfl (by kernel_rfl) (by kernel_rfl) (by kernel_rfl) (fun _ _ _ h => h) (Or.inl ⟨by rfl, ?hyB3⟩) ?reB3
        case hyB3 => (intro W hSw; (try dsimp only at hSw); go_simp; try with_reducible rfl)
        try simp only [Act.put, List.setIfInBounds_toArray, List.set_cons_zero, List.set_cons_succ]
        refine' wpAnyJ_take (i := 3) (oi := { dst := some 63, op := Op.load 61 (Operand.tmp 62), type := 61, pos := "world.go:226", after := #[{ on := 2, ground := Ground.data }], guard := none }) (v := _) rfl (by kernel_rfl) (by kernel_rfl) (by kernel_rfl) (by kernel_rfl) (fun _ _ _ h => h) (Or.inl ⟨by rfl, ?hyB4⟩) (by assumption) ?reB4
        case hyB4 => (intro W hSw; (try dsimp only at hSw); go_simp; try with_reducible rfl)
        try simp only [Act.put, List.setIfInBounds_toArray, List.set_cons_zero, List.set_cons_succ]
        refine' wpAnyJ_take (i := 4) (oi := { dst := some 64, op := Op.load 34 (Operand.tmp 4), type := 34, pos := "world.go:226", after := #[], guard := none }) (v := _) rfl (by kernel_rfl) (by kernel_rfl) (by kernel_rfl) (by kernel_rfl) (fun _ _ _ h => h) (Or.inl ⟨by rfl, ?hyB5⟩) (by assumption) ?reB5
        case hyB5 => (intro W hSw; (try dsimp only at hSw); go_simp; try with_reducible rfl)
        try simp only [Act.put, List.setIfInBounds_toArray, List.set_cons_zero, List.set_cons_succ]
        refine' wpAnyJ_takeW (i := 5) (oi := { dst := some 65, op := Op.move (Operand.tmp 7), type := 3, pos := "world.go:226", after := #[], guard := none }) (v := _) rfl (by kernel_rfl) (by kernel_rfl) (by kernel_rfl) (fun _ _ _ h => h) (Or.inl ⟨by rfl, ?hyB6⟩) ?reB6
        case hyB6 => (intro W hSw; (try dsimp only at hSw); go_simp; try with_reducible rfl)
        try simp only [Act.put, List.setIfInBounds_toArray, List.set_cons_zero, List.set_cons_succ]
        refine wpAnyJ_ready (rs := [6]) (by kernel_rfl) (by simp) ?_
        refine AllReadyJ.cons (o := { dst := none, op := Op.mapUpdate 61 (Operand.tmp 63) (Operand.tmp 64) (Operand.tmp 65), type := 0, pos := "world.go:226", after := #[{ on := 3, ground := Ground.data }, { on := 4, ground := Ground.data }, { on := 5, ground := Ground.data }, { on := 0, ground := Ground.phase }, { on := 1, ground := Ground.phase }, { on := 2, ground := Ground.phase }, { on := 3, ground := Ground.phase }, { on := 4, ground := Ground.phase }, { on := 5, ground := Ground.phase }], guard := none }) rfl (fun K hK => ?_) AllReadyJ.nil
        go_simp
        refine hK.out _ _ (fun _ _ => ⟨y2, y0, y1⟩) ?_
        clear hK K
        try simp only [Act.put, List.setIfInBounds_toArray, List.set_cons_zero, List.set_cons_succ]
        refine wpAnyJ_done (by kernel_rfl) ?_ _
        refine NoPanic.normal ?_
        go_wp2_with fail
        go_end0
        refine ⟨rfl, l', g, _, HP.out, HS.out, ?_, K9.out⟩
        have eq2 : moreT q T (setOf l') (a, b) vals = fun x => if x = setOf l' then ((if True then (([], List.replicate vals.length []) : Ts) else T (setOf l')).1 ++ [(a, b)], addRow (if True then (([], List.replicate vals.length []) : Ts) else T (setOf l')).2 vals) else if x = setOf l' then ([], List.replicate vals.length []) else T x := by
          unfold moreT baseT
          rw [HQq.out]
          funext x
          by_cases e : x = setOf l'
          · simp [e]
          · simp [e]
        rw [← HVL.out, EV.out.1, EV.out.2.1, EV.out.2.2, eq2]
        have hfin := H9.out.up (M' := M + 3) (by omega)
        exact hfin
end
end Go.Proofs.YtfbhoemfabgjpaaGreat

/-
  A region that draws its order: a load may be taken first where only operations that wait for it write its cell.
  (As the library's own law on held regions, but the condition need not be shown behind those that wait for all that lean on it.)
-/
namespace Go.Proofs.YtfbhoemfabgjpaaGreat
section
variable {P : Program} {ops : Array Oper} {Q : Exit → Act → World → Prop} {md : Region.Mode} {J : Nat → Bool} {S : World → Prop}
end
end Go.Proofs.YtfbhoemfabgjpaaGreat
