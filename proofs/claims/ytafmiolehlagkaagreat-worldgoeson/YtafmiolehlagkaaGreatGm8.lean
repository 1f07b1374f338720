import Derived.Test.YtafmiolehlagkaaGreatIPool
import Derived.Test.YtafmiolehlagkaaGreatGm6
import Derived.Test.YtafmiolehlagkaaGreatGm7
import Derived.Test.YtafmiolehlagkaaGreatPSize
/-
  All.
-/
namespace Go.Proofs.YtafmiolehlagkaaGreat
open Go.RowKit
set_option maxRecDepth 100000
def nz (p : Nat × Nat) : Bool := !(p.1 == 0 && p.2 == 0)
theorem filter_take_succ {lv : List (Nat × Nat)} {i : Nat} (h : i < lv.length) : (lv.take (i + 1)).filter nz = (lv.take i).filter nz ++ (if nz lv[i] then [lv[i]] else []) := by
  rw [List.take_add_one, List.getElem?_eq_getElem h, List.filter_append]
  simp [List.filter_cons]
set_option maxHeartbeats 2000000 in
set_option maxRecDepth 100000 in
theorem all_pm (g n : Nat) (vg vl vf : Value) (gs fr : List Nat) (lv : List (Nat × Nat)) (w : World) (h : Pm w g n vg vl vf gs fr lv) (hl : lv.length ≤ 1000000) :
    Calls Tryz.prog 65 #[.pointer (some ⟨g, 0, none⟩)] w fun e w' => ∃ v, e = .returned v ∧ w'.ownsRow w.heap.size 29 2 v (lv.filter nz).length (ec (lv.filter nz)) ∧ Below w.heap.size w w' := by
  obtain ⟨i0, hi, hz0, hz1, hz2⟩ := info_parts info41
  obtain ⟨c0, c1, c2, c3⟩ := h.cell
  obtain ⟨ao, c, rfl⟩ := own_len h.2.2.1
  obtain ⟨hc1, hc2⟩ := own_cap h.2.2.1
  have H := hide h
  clear h
  go_enter Tryz.func65, Tryz.ntmps65
  go_wp2_with fail
  clear c0 c1 c2 c3
  go_loopw [3, 11] (fun v3 v11 wr => ∃ i : Nat, i ≤ lv.length ∧ v11 = .int .i64 (i : Int) ∧ Hid (Below w.heap.size w wr) ∧ Hid (wr.ownsRow w.heap.size 29 2 v3 ((lv.take i).filter nz).length (ec ((lv.take i).filter nz)))) (fun _ v11 _ => lv.length - (intOf v11).toNat)
  case atStart => exact ⟨0, Nat.zero_le _, rfl, Below.refl _ _, World.ownsRow_nil _ _ _ _⟩
  case round =>
    obtain ⟨i, hil, rfl, HB, HO⟩ := hrel
    by_cases hlt : i < lv.length
    · have t1 : (i : Int) < (lv.length : Int) := by omega
      have hP := H.out.later HB.out
      obtain ⟨gl, c', ee, -, -⟩ := own_form hP.2.2.1 (by omega)
      simp only [Value.slice.injEq] at ee
      obtain ⟨rfl, -, rfl⟩ := ee
      obtain ⟨e1, e2⟩ := i_own_ent hP.2.2.1 i hlt
      have hs := filter_take_succ hlt
      have hsz := HB.out.size
      have hfl : ((lv.take i).filter nz).length ≤ 1000000 := Nat.le_trans (List.length_filter_le _ _) (by rw [List.length_take]; omega)
      generalize ((lv.take i).filter nz) = L at *
      generalize lv[i] = p at *
      obtain ⟨a, b⟩ := p
      obtain ⟨ao3, c3, rfl⟩ := own_len HO.out
      have HS := hide hs
      simp only at e1 e2
      clear hP hs
      cases hz : nz (a, b) with
      | false =>
        have hab : a = 0 ∧ b = 0 := by simpa [nz] using hz
        obtain ⟨rfl, rfl⟩ := hab
        go_wp2_with fail
        go_roundw
        case rel => 
          refine ⟨i + 1, by omega, by go_num, below_on HB.out (below_alloc wr _), ?_⟩
          have := HS.out
          rw [hz] at this
          rw [this]
          simpa [Hid] using own_later HO.out (below_alloc wr _)
        case measure => simp [intOf]; omega
      | true =>
        have hab : a = 0 → ¬ b = 0 := fun h1 h2 => by simp [nz, h1, h2] at hz
        have K : Hid (∀ (v' : Value) (w' : World), w'.ownsRow w.heap.size 29 2 v' (L.length + 1) (ec L ++ [.int .i64 (a : Int), .int .i64 (b : Int)]) → ((wr.alloc (.cells #[.int .i64 (a : Int), .int .i64 (b : Int)] 29)).alloc (.cells #[.int .i64 (a : Int), .int .i64 (b : Int)] 29)).grownBy w' (Value.slice ao3 L.length c3).ownBlock → Below w.heap.size w w' ∧ w'.ownsRow w.heap.size 29 2 v' ((lv.take (i + 1)).filter nz).length (ec ((lv.take (i + 1)).filter nz))) := fun v' w' h1 h2 => by
          refine ⟨(below_on (below_on HB.out (below_alloc wr _)) (below_alloc _ _)).grown h2 (by simp; omega) (fun k e => (HO.out.lt k e).1), ?_⟩
          have := HS.out
          rw [hz] at this
          rw [this, ec_append]
          simpa [ec] using h1
        by_cases ha : a = 0
        · have hb : ¬ b = 0 := hab ha
          subst ha
          clear hab
          go_wp2_with (at_builtin; refine wpList_append_lies _ rfl _ _ 39 rfl w.heap.size 29 i0 (.agg #[.int .i64 0, .int .i64 0]) 2 16 Tryz.underlying39 hi hz0 hz1 hz2 rfl (by decide) _ _ _ rfl ((HO.out.alloc _).alloc _) ⟨wr.heap.size + 1, 0, none⟩ 1 1 [.int .i64 0, .int .i64 (b : Int)] rfl rfl ?c1 ?c2 (by omega) (by unfold maxLen; omega) (by omega) ?c5 _ rfl ?_)
          case c1 =>
            intro j u hj
            match j, hj with
            | 0, hj => simp at hj; subst hj; simp [Addr.add]
            | 1, hj => simp at hj; subst hj; simp [Addr.add]
          case c2 =>
            intro u hu
            simp at hu
            rcases hu with rfl | rfl <;> rfl
          case c5 => simp; omega
          intro g9 c9 w9 h1 h2 _ _
          obtain ⟨h3, h4⟩ := K.out _ _ h1 h2
          have H3 := hide h3
          have H4 := hide h4
          clear h1 h2 h3 h4 K
          go_wp2_with fail
          go_roundw
          case rel => exact ⟨i + 1, by omega, by go_num, H3, H4⟩
          case measure => simp [intOf]; omega
        · clear hab
          go_wp2_with (at_builtin; refine wpList_append_lies _ rfl _ _ 39 rfl w.heap.size 29 i0 (.agg #[.int .i64 0, .int .i64 0]) 2 16 Tryz.underlying39 hi hz0 hz1 hz2 rfl (by decide) _ _ _ rfl ((HO.out.alloc _).alloc _) ⟨wr.heap.size + 1, 0, none⟩ 1 1 [.int .i64 (a : Int), .int .i64 (b : Int)] rfl rfl ?d1 ?d2 (by omega) (by unfold maxLen; omega) (by omega) ?d5 _ rfl ?_)
          case d1 =>
            intro j u hj
            match j, hj with
            | 0, hj => simp at hj; subst hj; simp [Addr.add]
            | 1, hj => simp at hj; subst hj; simp [Addr.add]
          case d2 =>
            intro u hu
            simp at hu
            rcases hu with rfl | rfl <;> rfl
          case d5 => simp; omega
          intro g9 c9 w9 h1 h2 _ _
          obtain ⟨h3, h4⟩ := K.out _ _ h1 h2
          have H3 := hide h3
          have H4 := hide h4
          clear h1 h2 h3 h4 K
          go_wp2_with fail
          go_roundw
          case rel => exact ⟨i + 1, by omega, by go_num, H3, H4⟩
          case measure => simp [intOf]; omega
    · obtain rfl : i = lv.length := by omega
      have ho := HO.out
      rw [List.take_length] at ho
      have HO1 := hide ho
      have t1 : ¬ (lv.length : Int) < (lv.length : Int) := by omega
      clear ho HO
      go_wp2_with fail
      go_ret
      exact ⟨_, rfl, HO1.out, HB.out⟩
theorem all_any {w : World} {S : Nat → Prop} {g n : Nat} {gs fr : List Nat} (h : Pl w S g n gs fr) :
    Calls Tryz.prog 65 #[.pointer (some ⟨g, 0, none⟩)] w fun e w' => ∃ v, e = .returned v ∧ w'.ownsRow w.heap.size 29 2 v ((lvOf gs fr).filter nz).length (ec ((lvOf gs fr).filter nz)) ∧ Below w.heap.size w w' := by
  obtain ⟨⟨vg, vl, vf, hp, _⟩, ho⟩ := h
  exact all_pm g n vg vl vf gs fr _ w hp (by rw [lvOf_len]; have := ho.2.2.1; have := ho.2.1; omega)
end Go.Proofs.YtafmiolehlagkaaGreat

/-
  World: Load: who lives, in the pool's order; what has been put so far.
-/
namespace Go.Proofs.YtafmiolehlagkaaGreat
open Go.RowKit
set_option maxRecDepth 100000
def ie (p : Nat × Nat) : Int × Int := ((p.1 : Int), (p.2 : Int))
def allL (gs fr : List Nat) : List (Nat × Nat) := (lvOf gs fr).filter nz
theorem all_mem {gs fr : List Nat} (p : Nat × Nat) (h : p ∈ allL gs fr) : ∃ i, i < gs.length ∧ on gs fr i = true ∧ p = (i, gs.getD i 0) := by
  unfold allL at h
  obtain ⟨h1, h2⟩ := List.mem_filter.1 h
  unfold lvOf at h1
  obtain ⟨i, hi, rfl⟩ := List.mem_map.1 h1
  rw [List.mem_range] at hi
  by_cases c : on gs fr i = true
  · exact ⟨i, hi, c, by rw [if_pos c]⟩
  · rw [if_neg c] at h2
    simp [nz] at h2
theorem all_rise (gs fr : List Nat) : ((allL gs fr).map ie).Pairwise (fun x y => x.1 < y.1) := by
  unfold allL lvOf
  refine List.pairwise_map.2 (List.pairwise_filter.2 (List.pairwise_map.2 (List.pairwise_lt_range.imp (fun {i j} hij => ?_))))
  intro h1 h2
  by_cases c : on gs fr i = true
  · by_cases d : on gs fr j = true
    · rw [if_pos c, if_pos d]
      simp only [ie]
      omega
    · rw [if_neg d] at h2
      simp [nz] at h2
  · rw [if_neg c] at h1
    simp [nz] at h1
theorem all_livers {gs fr : List Nat} {C : Co} (ho : Ok 200 gs fr) (hl : Lv gs fr C) : Livers (fC C) ((allL gs fr).map ie) := by
  have hr := all_rise gs fr
  refine ⟨hr.imp (fun {x y} h => by omega), hr.imp (fun {x y} h e => by rw [e] at h; omega), fun e _ => ?_, fun e he => ?_⟩
  · obtain ⟨a, b⟩ := e
    rw [fC_is, ← hl, lives_iff]
    constructor
    · rintro ⟨i, rfl, h1, h2, h3, rfl⟩
      refine List.mem_map.2 ⟨(i, gs.getD i 0), List.mem_filter.2 ⟨List.mem_map.2 ⟨i, List.mem_range.2 h1, ?_⟩, ?_⟩, rfl⟩
      · have hon : on gs fr i = true := by
          unfold on
          rw [Bool.and_eq_true, decide_eq_true_eq, Bool.not_eq_true', List.contains_eq_mem, decide_eq_false_iff_not]
          exact ⟨h2, h3⟩
        rw [if_pos hon]
      · have hm : gs.getD i 0 ∈ gs := by
          rw [List.getD_eq_getElem?_getD, List.getElem?_eq_getElem h1, Option.getD_some]
          exact List.getElem_mem h1
        have h0 := (ho.2.2.2.1 _ hm).1
        generalize gs.getD i 0 = z at *
        simp [nz]
        omega
    · intro hm
      obtain ⟨p, hp, e⟩ := List.mem_map.1 hm
      obtain ⟨i, h1, h2, rfl⟩ := all_mem p hp
      simp only [ie, Prod.mk.injEq] at e
      simp only [on, Bool.and_eq_true, decide_eq_true_eq, Bool.not_eq_true', List.contains_eq_mem, decide_eq_false_iff_not] at h2
      exact ⟨i, e.1.symm, h1, h2.1, h2.2, e.2.symm⟩
  · obtain ⟨p, hp, rfl⟩ := List.mem_map.1 he
    obtain ⟨i, h1, h2, rfl⟩ := all_mem p hp
    have := ho.2.2.1
    simp only [on, Bool.and_eq_true, decide_eq_true_eq] at h2
    simp only [ie, InB]
    omega
/-- What has been put so far. -/
def Cr (C : Co) (E : List (Int × Int)) (i : Nat) : Co := fun x => if x ∈ E.take i then C x else none
theorem cr_zero (C : Co) (E : List (Int × Int)) : Cr C E 0 = fun _ => none := by
  funext x
  simp [Cr]
theorem cr_step {C : Co} {E : List (Int × Int)} {i : Nat} (hi : i < E.length) {p : Nat × List Int} (hp : C E[i] = some p) : Cr C E (i + 1) = fun x => if x = E[i] then some p else Cr C E i x := by
  funext x
  have hm : x ∈ E.take (i + 1) ↔ x ∈ E.take i ∨ x = E[i] := by
    rw [List.take_succ_eq_append_getElem hi, List.mem_append, List.mem_singleton]
  by_cases c : x = E[i]
  · simp only [Cr]
    rw [if_pos (hm.2 (.inr c)), if_pos c, c]
    exact hp
  · simp only [Cr, if_neg c]
    by_cases d : x ∈ E.take i
    · rw [if_pos (hm.2 (.inl d)), if_pos d]
    · rw [if_neg (fun e => (hm.1 e).elim d c), if_neg d]
theorem cr_next {C : Co} {E : List (Int × Int)} {i : Nat} (hn : E.Nodup) (hi : i < E.length) : Cr C E i E[i] = none := by
  simp only [Cr]
  rw [if_neg]
  intro h
  obtain ⟨j, hj, e⟩ := List.getElem_of_mem h
  rw [List.length_take] at hj
  rw [List.getElem_take] at e
  have := nodup_at hn _ _ e
  omega
theorem cr_all {gs fr : List Nat} {C : Co} {E : List (Int × Int)} (ho : Ok 200 gs fr) (hl : Lv gs fr C) (hE : Livers (fC C) E) : Cr C E E.length = C := by
  funext x
  simp only [Cr, List.take_length]
  by_cases c : x ∈ E
  · rw [if_pos c]
  · rw [if_neg c]
    cases hx : C x with
    | none => rfl
    | some p =>
      exfalso
      obtain ⟨a, b⟩ := x
      have h1 : livesOf gs fr a b = true := by rw [hl, hx]; rfl
      have h2 := inb_of ho h1
      exact c ((hE.2.2.1 _ h2).1 (by rw [fC_is, hx]; rfl))
theorem cr_cnt {gs fr : List Nat} {C : Co} {E : List (Int × Int)} {i : Nat} (ho : Ok 200 gs fr) (hl : Lv gs fr C) (hE : Livers (fC C) E) (hi : i < E.length) (F : List (Int × Int)) (hn : F.Nodup) (hF : ∀ e ∈ F, (fC (Cr C E i) e).isSome = true) : F.length < 200 := by
  have hx := cr_next (C := C) hE.2.1 hi
  have := lives_cnt hl ho.2.2.1 (F ++ [E[i]]) (by
    rw [List.nodup_append]
    refine ⟨hn, by simp, fun x hx' y hy e => ?_⟩
    rw [List.mem_singleton.1 hy] at e
    have := hF x hx'
    rw [e, fC_is, hx] at this
    cases this) (fun x hx' => by
    rcases List.mem_append.1 hx' with h | h
    · have := hF x h
      rw [fC_is] at this ⊢
      simp only [Cr] at this
      by_cases c : x ∈ E.take i
      · rwa [if_pos c] at this
      · rw [if_neg c] at this
        cases this
    · rw [List.mem_singleton.1 h]
      exact (hE.2.2.1 _ (hE.2.2.2 _ (List.getElem_mem hi))).2 (List.getElem_mem hi))
  rw [List.length_append, List.length_singleton] at this
  omega
theorem pv_pg {B s : Nat} {W : World} {ks : List Kind} {row : List Int} {L : List Pt} (h : Pv B W L (partsL ks s 1 row)) (hr : row.length = fsum ks s 1) : Pg ks L ∧ L.map (fun p => p.1.toNat) = (partsL ks s 1 row).map (·.1) := by
  obtain ⟨h1, h2⟩ := h
  have hm : L.map (fun p => p.1.toNat) = (partsL ks s 1 row).map (·.1) := by
    refine List.ext_getElem (by simp [h1]) (fun i i1 i2 => ?_)
    simp only [List.length_map] at i1 i2
    rw [List.getElem_map, List.getElem_map, (h2 i i1 i2).1]
    simp
  have hLn : ∀ x ∈ L, ∃ r ∈ partsL ks s 1 row, x.1 = (r.1 : Int) ∧ x.2.2.1 = r.2.length := fun x hx => by
    obtain ⟨i, hi, rfl⟩ := List.getElem_of_mem hx
    obtain ⟨k1, k2⟩ := h2 i hi (by omega)
    refine ⟨_, List.getElem_mem (by omega : i < (partsL ks s 1 row).length), k1, ?_⟩
    obtain ⟨ao, c, e⟩ := own_len k2
    simp only [ptV, Value.slice.injEq] at e
    exact e.2.1
  refine ⟨⟨fun x hx => ?_, ?_⟩, hm⟩
  · obtain ⟨r, hr', e1, e2⟩ := hLn x hx
    have m1 := partsL_mem ks s 1 row r hr'
    have m2 := partsL_len ks s 1 row hr r hr'
    refine ⟨by omega, by omega, ?_⟩
    rw [e2, m2, e1]
    simp
  · have : L.map (fun p => p.1.toNat - 1) = (partsL ks s 1 row).map (fun r => r.1 - 1) := by
      have := congrArg (List.map (fun n => n - 1)) hm
      simpa [List.map_map, Function.comp_def] using this
    rw [this]
    refine List.pairwise_map.2 (List.Pairwise.imp_of_mem (fun {x y} hx hy hlt => ?_) (partsL_pair ks s 1 row))
    have a1 := partsL_mem ks s 1 row x hx
    have a2 := partsL_mem ks s 1 row y hy
    omega
/-- The parts that were read, put: what the world is then. -/
theorem put_read {W : World} {own : Nat → Nat} {gw gp gm gt M B s : Nat} {vk : Value} {ks : List Kind} {gs fr : List Nat} {f : Int × Int → Option Nat} {q : Nat → Option Nat} {T : Nat → Ts} {row : List Int} {L : List Pt} {v : Value} (h : Wx 0 W own gw vk gp gm gt M ks gs fr f q T) (hw : Wi ks f q T) (hks : ks.length ≤ 12) (hk4 : ∀ x ∈ ks, x.2.length ≤ 4) (a b : Int) (hib : InB (a, b)) (hfn : f (a, b) = none) (hcnt : ∀ E : List (Int × Int), E.Nodup → (∀ e ∈ E, (f e).isSome = true) → E.length < 200) (hM : M ≤ 900000) (hv : W.ownsRow B 32 2 v L.length (pz L)) (hL : Pv B W L (partsL ks s 1 row)) (hLn : ∀ p ∈ L, p.2.1 ≠ none) (hr : row.length = fsum ks s 1) (hsb : Sb ks s) :
    Calls Tryz.prog 67 #[.pointer (some ⟨gw, 0, none⟩), .agg #[.int .i64 a, .int .i64 b], v] W fun e w' => e = .returned (.tuple #[]) ∧ ∃ (g : Nat) (own' : Nat → Nat), Wx 0 w' own' gw vk gp gm gt (M + 3) ks gs fr (fun x => if x = (a, b) then some s else f x) (fun x => if x = s then some g else q x) (moreT q T s (a, b) row) ∧ Wk own own' W w' ∧ Wi ks (fun x => if x = (a, b) then some s else f x) (fun x => if x = s then some g else q x) (moreT q T s (a, b) row) := by
  obtain ⟨hpg, hm⟩ := pv_pg hL hr
  have hso := set_all hsb hm
  have hiz : ∀ i (h1 : i < L.length) (h2 : i < (partsL ks s 1 row).length), Iz W (ptV L[i]) (partsL ks s 1 row)[i].2 := fun i h1 h2 => Iz.own (hL.2 i h1 h2).2
  refine (put_parts h hw hks hk4 a b hib hfn hcnt hM v L (fun p => valsOf W (ptV p)) (Rp.own hv) hpg (fun p hp => ?_)).mono ?_
  · obtain ⟨i, hi, rfl⟩ := List.getElem_of_mem hp
    have := hiz i hi (by rw [← hL.1]; exact hi)
    rw [this.vals]
    exact ⟨this, fun e => absurd e (hLn _ hp)⟩
  · rintro e w' ⟨rfl, vals, g, own', r1, r2, r3, r4, r5⟩
    rw [hso] at r1 r3 r4 r5
    obtain rfl : vals = row := cont_ext r4 hr (fun r => (r5 r).trans (by
      constructor
      · rintro ⟨p, hp, rfl⟩
        obtain ⟨i, hi, rfl⟩ := List.getElem_of_mem hp
        have h2 : i < (partsL ks s 1 row).length := by rw [← hL.1]; exact hi
        have e1 : (L[i].1.toNat, valsOf W (ptV L[i])) = (partsL ks s 1 row)[i] := by
          rw [(hiz i hi h2).vals, (hL.2 i hi h2).1]
          simp
        rw [e1]
        exact List.getElem_mem h2
      · intro hr'
        obtain ⟨i, hi, rfl⟩ := List.getElem_of_mem hr'
        have h1 : i < L.length := by rw [hL.1]; exact hi
        refine ⟨L[i], List.getElem_mem h1, ?_⟩
        rw [(hiz i h1 hi).vals, (hL.2 i h1 hi).1]
        simp))
    exact ⟨rfl, g, own', r1, r2, r3⟩
end Go.Proofs.YtafmiolehlagkaaGreat

namespace Go.Proofs.YtafmiolehlagkaaGreat.Pak
open Go.RowKit
set_option maxRecDepth 100000

theorem info2 : (Tryz.prog.info? 2).map (fun i => (i.zero, i.size, i.bytes)) = some (some (.int .i64 0), 1, 8) := by kernel_rfl
abbrev BCells (w : World) (g o : Nat) (l : List UInt8) : Prop := ∀ j (hj : j < l.length), w.cell? ⟨g, o + j, none⟩ = some (.int .u8 (l[j]).toNat)
theorem Bs.cut {w : World} {g o c : Nat} {l : List UInt8} (hc : BCells w g o l) (hlc : l.length ≤ c) (hm : c ≤ maxLen) {k : Nat} (hk : k ≤ l.length) (_hkc : k ≠ c) : Bs w (.slice (some ⟨g, o + k, none⟩) (l.length - k) (c - k)) (l.drop k) := by
  have := Bs.row (w := w) (g := g) (o := o + k) (c := c - k) (l := l.drop k) (by simp; omega) (by omega) (fun j hj => by
    simp at hj
    have := hc (k + j) (by omega)
    rw [← Nat.add_assoc] at this
    rw [this]
    simp)
  rwa [List.length_drop] at this
theorem Bs.cutEnd {w : World} {g o c : Nat} {l : List UInt8} (hlc : l.length ≤ c) {k : Nat} (hk : k ≤ l.length) (hkc : k = c) : Bs w (.slice (some ⟨g, o, none⟩) (l.length - k) 0) (l.drop k) := by
  have e : l.drop k = [] := List.drop_eq_nil_of_le (by omega)
  rw [e, show l.length - k = 0 by omega]
  exact ⟨some ⟨g, o, none⟩, 0, rfl, Nat.le_refl _, Nat.zero_le _, fun j hj => absurd hj (by simp)⟩
theorem bcells_below {B : Nat} {w w' : World} {g o : Nat} {l : List UInt8} (h : BCells w g o l) (hb : Below B w w') (hg : g < B) : BCells w' g o l :=
  fun j hj => (hb.cell (p := ⟨g, o + j, none⟩) hg).trans (h j hj)

/-- A block of int64, whole. -/
abbrev Nrow (w : World) (g : Nat) (zs : List Int) : Prop := w.heap[g]? = some (.cells (zs.map (Value.int .i64)).toArray 2 (0, 0))
theorem Nrow.cells {w : World} {g : Nat} {zs : List Int} (h : Nrow w g zs) : Cells w g 0 zs := fun j hj => by
  rw [Nat.zero_add, cell_of_row w g j _ 2 (0, 0) h]
  simp [hj]
theorem Nrow.frozen {w : World} {g : Nat} {zs : List Int} (h : Nrow w g zs) (j : Nat) : w.frozen? ⟨g, j, none⟩ = false := frozen_of_row w g j _ 2 h
theorem Nrow.set {w : World} {g : Nat} {zs : List Int} (h : Nrow w g zs) (j : Nat) (z : Int) : Nrow (w.setCell ⟨g, j, none⟩ (.int .i64 z)) g (zs.set j z) := by
  have := heap_setCell_same w g j _ 2 (.int .i64 z) h
  unfold Nrow
  rw [this]
  simp [List.map_set]
theorem nums_step {k : Nat} {b : List UInt8} (h : (Dec.getN b).2 ≠ 0) : Rd.nums (k + 1) b = (Rd.nums k (b.drop (Dec.getN b).2)).map fun r => (Dec.unzig (Dec.getN b).1 :: r.1, (Dec.getN b).2 + r.2) := by
  rw [Rd.nums, if_neg h]
theorem nums_stop {k : Nat} {b : List UInt8} (h : (Dec.getN b).2 = 0) : Rd.nums (k + 1) b = none := by rw [Rd.nums, if_pos h]

theorem nset (pre : List Int) (count k : Nat) (z : Int) (hp : pre.length = k) (hk : k < count) : (pre ++ List.replicate (count - k) 0).set k z = (pre ++ [z]) ++ List.replicate (count - (k + 1)) 0 := by
  rw [List.set_append_right _ _ (by omega), hp, Nat.sub_self, show count - k = (count - (k + 1)) + 1 by omega, List.replicate_succ]
  simp
theorem getInt_none (g o : Nat) (w : World) : Calls Tryz.prog 178 #[.slice (some ⟨g, o, none⟩) 0 0] w fun e w' => e = .returned (.tuple #[.int .i64 0, .int .i64 0]) ∧ w' = w :=
  getInt_any _ [] w ⟨some ⟨g, o, none⟩, 0, rfl, Nat.le_refl _, Nat.zero_le _, fun j hj => absurd hj (by simp)⟩
/-- What a reader of numbers hands back. -/
def Read (w w' : World) (e : Ending) (r : Option (List Int × Nat)) : Prop :=
  (r = none ∧ ∃ v, e = .returned (.tuple #[v, .int .i64 0]) ∧ v = .slice none 0 0) ∨
  ∃ zs t g, r = some (zs, t) ∧ e = .returned (.tuple #[.slice (some ⟨g, 0, none⟩) zs.length zs.length, .int .i64 t]) ∧ w.heap.size ≤ g ∧ Nrow w' g zs

set_option maxHeartbeats 4000000 in
set_option maxRecDepth 100000 in
theorem readNumbers_some (g o c count : Nat) (l : List UInt8) (w : World) (hpos : 1 ≤ count) (hcount : count ≤ 100000) (hlc : l.length ≤ c) (hm : c ≤ maxLen) (hc : BCells w g o l) (hg : g < w.heap.size) (hle : count ≤ l.length) :
    Calls Tryz.prog 200 #[.slice (some ⟨g, o, none⟩) l.length c, .int .i64 count] w fun e w' => Read w w' e (Rd.nums count l) ∧ Below w.heap.size w w' := by
  obtain ⟨i0, hi, hz0, hz1, hz2⟩ := info_parts info2
  have HC := hide hc
  have HM := hide hm
  unfold maxLen at hm
  clear hc
  go_enter Tryz.func200, Tryz.ntmps200
  go_wp2_with (at_make; refine wpList_make_full _ rfl _ _ 30 rfl w.heap.size 2 i0 (.int .i64 0) 1 Tryz.underlying30 hi hz0 hz1 .i64 .i64 _ _ count rfl rfl ?c1 ?c2 ?c3 ?c4 ?c5 ?_)
  case c1 => omega
  case c2 => omega
  case c3 => rw [hz2]; omega
  case c4 => unfold maxLen; omega
  case c5 => omega
  intro w1 hown hgrow
  have hb1 : Below w.heap.size w w1 := (Below.refl _ _).grown hgrow (Nat.le_refl _) (by intro k hk; cases hk)
  have hr1 := (own_block hown).1
  have hr2 : Nrow w1 w.heap.size (List.replicate count 0) := by
    unfold Nrow
    rw [hr1, toList_madeCells_one]
    simp
  have HR := hide hr2
  have HB := hide hb1
  clear hown hgrow hr1 hr2 hb1
  go_wp2
  go_loopw [7, 18] (fun a i wr => ∃ (k at' : Nat) (pre : List Int), k ≤ count ∧ pre.length = k ∧ at' ≤ l.length ∧ i = .int .i64 k ∧ a = .int .i64 at' ∧ Nrow wr w.heap.size (pre ++ List.replicate (count - k) 0) ∧ Below w.heap.size w wr ∧ Hid (Rd.nums count l = (Rd.nums (count - k) (l.drop at')).map fun r => (pre ++ r.1, at' + r.2))) (fun _ i _ => count - (intOf i).toNat)
  case atStart => exact ⟨0, 0, [], Nat.zero_le _, rfl, Nat.zero_le _, rfl, rfl, HR.out, HB.out, show _ = _ by simp⟩
  case round =>
    obtain ⟨k, a, pre, hk, hpl, ha, rfl, rfl, hrow, hb, hdec⟩ := hrel
    have HRr := hide hrow
    have HBr := hide hb
    have HP := hide hpl
    clear hrow hb hpl
    by_cases hlt : k < count
    · have hle2 := Dec.getN_le (l.drop a)
      rw [List.length_drop] at hle2
      by_cases hac : a = c
      · have hnil : l.drop a = [] := List.drop_eq_nil_of_le (by omega)
        subst hac
        have hgi := getInt_none g o wr
        have E := hide (show Rd.nums count l = none by rw [hdec.out, hnil, show count - k = (count - k - 1) + 1 by omega, nums_stop rfl]; rfl)
        clear hdec hnil
        go_wp2_with fail
        refine hgi.mono ?_
        rintro e w' ⟨rfl, rfl⟩
        go_wp2
        go_ret2
        exact ⟨.inl ⟨E.out, _, rfl, rfl⟩, HBr.out⟩
      · have hgi := getInt_any _ _ wr (Bs.cut (bcells_below HC.out HBr.out hg) hlc HM.out ha hac)
        have hac' : ¬ (a : Int) = c := by omega
        have ED := hide (fun h => (nums_step (k := count - k - 1) (b := l.drop a) h))
        have ES := hide (fun h => (nums_stop (k := count - k - 1) (b := l.drop a) h))
        have hfit := Rd.unzig_fits (l.drop a)
        generalize Dec.getN (l.drop a) = p at *
        obtain ⟨n, s⟩ := p
        simp only at hle2 hfit hgi
        generalize Dec.unzig n = z at *
        by_cases hs0 : s = 0
        · have E := hide (show Rd.nums count l = none by rw [hdec.out, show count - k = (count - k - 1) + 1 by omega, ES.out hs0]; rfl)
          have hz : ((s : Int) == 0) = true := by simp [hs0]
          have HS0 := hide hs0
          clear hdec hs0
          go_wp2_with fail
          refine hgi.mono ?_
          rintro e w' ⟨rfl, rfl⟩
          go_wp2
          go_ret2
          have hs0 := HS0.out
          subst hs0
          exact ⟨.inl ⟨E.out, _, rfl, rfl⟩, HBr.out⟩
        · have hz : ((s : Int) == 0) = false := by simp [hs0]
          have hfz := HRr.out.frozen k
          have hcl := HRr.out.cells k (by simp [HP.out]; omega)
          rw [Nat.zero_add] at hcl
          obtain ⟨y, hy⟩ : ∃ y, (pre ++ List.replicate (count - k) 0).getD k 0 = y := ⟨_, rfl⟩
          rw [hy] at hcl
          have HY := hide hy
          clear hy
          have E := hide (show Rd.nums count l = (Rd.nums (count - (k + 1)) (l.drop (a + s))).map fun r => ((pre ++ [z]) ++ r.1, (a + s) + r.2) by
            rw [hdec.out, show count - k = (count - k - 1) + 1 by omega, ED.out hs0, List.drop_drop, show count - (k + 1) = count - k - 1 by omega, Option.map_map]
            congr 1
            funext r
            simp [Nat.add_assoc])
          clear hdec
          go_wp2_with fail
          refine hgi.mono ?_
          rintro e w' ⟨rfl, rfl⟩
          go_wp2
          refine ⟨⟨k + 1, a + s, pre ++ [z], by omega, by simp [HP.out], by omega, by go_num, by go_num, ?_, HBr.out.setCell (Nat.le_refl _) _, E.out⟩, by simp [intOf]; omega⟩
          have := HRr.out.set k z
          rw [nset pre count k z HP.out hlt] at this
          exact this
    · obtain rfl : k = count := by omega
      have E := hide (show Rd.nums k l = some (pre, a) by rw [hdec.out]; simp [Rd.nums])
      clear hdec
      go_wp2
      go_ret2
      have hrow := HRr.out
      simp only [Nat.sub_self, List.replicate_zero, List.append_nil] at hrow
      refine ⟨.inr ⟨pre, a, w.heap.size, E.out, by rw [HP.out]; rfl, Nat.le_refl _, hrow⟩, HBr.out⟩

set_option maxHeartbeats 1000000 in
set_option maxRecDepth 100000 in
theorem readNumbers_few (ao : Option Addr) (n c count : Nat) (w : World) (hn : n < count) (_hc : count ≤ 100000) :
    Calls Tryz.prog 200 #[.slice ao n c, .int .i64 count] w fun e w' => e = .returned (.tuple #[.slice none 0 0, .int .i64 0]) ∧ w' = w := by
  have h : (n : Int) < count := by omega
  go_enter Tryz.func200, Tryz.ntmps200
  go_wp2
  go_ret2
  exact ⟨rfl, rfl⟩
theorem nums_few {count : Nat} {l : List UInt8} (h : l.length < count) : Rd.nums count l = none := by
  cases he : Rd.nums count l with
  | none => rfl
  | some r =>
    obtain ⟨zs, t⟩ := r
    have := Rd.nums_facts count l zs t he
    omega
theorem readNumbers_any (v : Value) (l : List UInt8) (count : Nat) (w : World) (h : Bs w v l) (hpos : 1 ≤ count) (hcount : count ≤ 100000) :
    Calls Tryz.prog 200 #[v, .int .i64 count] w fun e w' => Read w w' e (Rd.nums count l) ∧ Below w.heap.size w w' := by
  by_cases hle : count ≤ l.length
  · rcases h.parts with ⟨ao, c, rfl, rfl⟩ | ⟨g, o, c, rfl, hp, hlc, hm, hc⟩
    · simp at hle
      omega
    · exact readNumbers_some g o c count l w hpos hcount hlc hm hc (World.block_lt_of_cell? w _ (hc 0 hp)) hle
  · obtain ⟨ao, c, rfl, _, _, _⟩ := h
    refine (readNumbers_few ao l.length c count w (by omega) hcount).mono ?_
    rintro e w' ⟨rfl, rfl⟩
    exact ⟨.inl ⟨nums_few (by omega), _, rfl, rfl⟩, Below.refl _ _⟩
end Go.Proofs.YtafmiolehlagkaaGreat.Pak

namespace Go.Proofs.YtafmiolehlagkaaGreat.Pak
open Go.RowKit
set_option maxRecDepth 100000

/-- Numbers that are owned. -/
abbrev Nown (w : World) (B : Nat) (v : Value) (zs : List Int) : Prop := w.ownsRow B 2 1 v zs.length (zs.map (Value.int .i64))
theorem Nown.shape {w : World} {B : Nat} {v : Value} {zs : List Int} (h : Nown w B v zs) : ∃ ao cap, v = .slice ao zs.length cap ∧ zs.length ≤ cap ∧ cap ≤ maxLen ∧ (0 < zs.length → ∃ g, ao = some ⟨g, 0, none⟩ ∧ B ≤ g ∧ Cells w g 0 zs) := by
  rcases h.2 with ⟨rfl, h0⟩ | ⟨g, cap, cur, rfl, hb, hg, hnc, hcm, hcs, htake⟩
  · exact ⟨none, 0, by rw [h0], by omega, Nat.zero_le _, fun h => by omega⟩
  · refine ⟨some ⟨g, 0, none⟩, cap, rfl, hnc, hcm, fun _ => ⟨g, rfl, hb, fun j hj => ?_⟩⟩
    have := h.cellAt j (by omega)
    rw [Nat.zero_add, this]
    simp [hj]
theorem Nown.ns {w : World} {B : Nat} {v : Value} {zs : List Int} (h : Nown w B v zs) : Ns w v zs := by
  obtain ⟨ao, cap, rfl, h1, h2, h3⟩ := h.shape
  refine ⟨ao, cap, rfl, h1, h2, fun j hj => ?_⟩
  obtain ⟨g, e, _, hc⟩ := h3 (by omega)
  exact ⟨g, 0, e, hc j hj⟩
theorem Nrow.own {w : World} {B g : Nat} {zs : List Int} (h : Nrow w g zs) (hB : B ≤ g) (hm : zs.length ≤ maxLen) : Nown w B (.slice (some ⟨g, 0, none⟩) zs.length zs.length) zs :=
  ⟨by simp, .inr ⟨g, zs.length, _, rfl, hB, h, Nat.le_refl _, hm, by simp, List.take_of_length_le (by simp)⟩⟩

def Out (w w' : World) (e : Ending) (r : Option (List Int × Nat)) : Prop :=
  (r = none ∧ e = .returned (.tuple #[.slice none 0 0, .int .i64 0])) ∨ ∃ zs t v, r = some (zs, t) ∧ e = .returned (.tuple #[v, .int .i64 (t : Nat)]) ∧ Nown w' w.heap.size v zs

theorem runs_end {left : Nat} {last : Option Int} {b : List UInt8} : Rd.runs 0 left last b = if left = 0 then some ([], 0) else none := by rw [Rd.runs]
theorem runs_bad1 {m left : Nat} {last : Option Int} {b : List UInt8} (h : (Dec.getN b).2 = 0 ∨ (Dec.getN b).1 = 0 ∨ left < (Dec.getN b).1) : Rd.runs (m + 1) left last b = none := by rw [Rd.runs, if_pos h]
theorem runs_bad2 {m left : Nat} {last : Option Int} {b : List UInt8} (h : (Dec.getN (b.drop (Dec.getN b).2)).2 = 0 ∨ last = some (Dec.unzig (Dec.getN (b.drop (Dec.getN b).2)).1)) : Rd.runs (m + 1) left last b = none := by
  rw [Rd.runs]
  split <;> first | rfl | rw [if_pos h]
theorem runs_go {m left : Nat} {last : Option Int} {b : List UInt8} {n h x s : Nat} (h1 : Dec.getN b = (n, h)) (h2 : Dec.getN (b.drop h) = (x, s)) (hh : h ≠ 0) (hn : n ≠ 0) (hl : n ≤ left) (hs : s ≠ 0) (hx : last ≠ some (Dec.unzig x)) :
    Rd.runs (m + 1) left last b = (Rd.runs m (left - n) (some (Dec.unzig x)) (b.drop (h + s))).map fun r => (List.replicate n (Dec.unzig x) ++ r.1, h + s + r.2) := by
  rw [Rd.runs, h1]
  simp only
  rw [if_neg (by omega), h2]
  simp only
  rw [if_neg (by intro hc; rcases hc with hc | hc; exact hs hc; exact hx hc)]

theorem nown_snoc {w : World} {B j : Nat} {v : Value} {pre : List Int} {z : Int} (h : w.ownsRow B 2 1 v (pre.length + j + 1) (pre.map (Value.int .i64) ++ (List.replicate j (Value.int .i64 z) ++ [Value.int .i64 z]))) : Nown w B v (pre ++ List.replicate (j + 1) z) := by
  unfold Nown
  have e : (pre ++ List.replicate (j + 1) z).map (Value.int .i64) = pre.map (Value.int .i64) ++ (List.replicate j (Value.int .i64 z) ++ [Value.int .i64 z]) := by rw [List.replicate_succ', List.map_append, List.map_append, List.map_replicate]; rfl
  rw [e, List.length_append, List.length_replicate, ← Nat.add_assoc]
  exact h
/-- Where a reader of runs stands. -/
def At (l : List UInt8) (many count a0 i a : Nat) (pre : List Int) : Prop :=
  Rd.runs many count none (l.drop a0) = (Rd.runs (many - i) (count - pre.length) pre.getLast? (l.drop a)).map fun r => (pre ++ r.1, a - a0 + r.2)

theorem At.none1 {l : List UInt8} {many count a0 i a : Nat} {pre : List Int} (h : At l many count a0 i a pre) (hi : i < many)
    (hb : (Dec.getN (l.drop a)).2 = 0 ∨ (Dec.getN (l.drop a)).1 = 0 ∨ count - pre.length < (Dec.getN (l.drop a)).1) : Rd.runs many count none (l.drop a0) = none := by
  unfold At at h
  rw [h, show many - i = (many - i - 1) + 1 by omega, runs_bad1 hb]
  rfl
theorem At.none2 {l : List UInt8} {many count a0 i a n h' : Nat} {pre : List Int} (h : At l many count a0 i a pre) (hi : i < many) (h1 : Dec.getN (l.drop a) = (n, h'))
    (hb : (Dec.getN (l.drop (a + h'))).2 = 0 ∨ pre.getLast? = some (Dec.unzig (Dec.getN (l.drop (a + h'))).1)) : Rd.runs many count none (l.drop a0) = none := by
  unfold At at h
  rw [h, show many - i = (many - i - 1) + 1 by omega, runs_bad2 (by rw [h1, List.drop_drop]; exact hb)]
  rfl
theorem At.step {l : List UInt8} {many count a0 i a n h' x s : Nat} {pre : List Int} (h : At l many count a0 i a pre) (hi : i < many) (haa : a0 ≤ a) (h1 : Dec.getN (l.drop a) = (n, h')) (h2 : Dec.getN (l.drop (a + h')) = (x, s))
    (hh : h' ≠ 0) (hn : n ≠ 0) (hl : n ≤ count - pre.length) (hs : s ≠ 0) (hx : pre.getLast? ≠ some (Dec.unzig x)) : At l many count a0 (i + 1) (a + (h' + s)) (pre ++ List.replicate n (Dec.unzig x)) := by
  unfold At at *
  have e1 : (pre ++ List.replicate n (Dec.unzig x)).getLast? = some (Dec.unzig x) := by
    rw [List.getLast?_append]
    simp [List.getLast?_replicate, hn]
  rw [h, show many - i = (many - (i + 1)) + 1 by omega, runs_go h1 (by rw [List.drop_drop]; exact h2) hh hn hl hs hx, List.drop_drop, Option.map_map, e1, List.length_append, List.length_replicate, show count - (pre.length + n) = count - pre.length - n by omega]
  congr 1
  funext r
  simp only [Function.comp, List.append_assoc, Prod.mk.injEq, true_and]
  omega
theorem At.done {l : List UInt8} {many count a0 a : Nat} {pre : List Int} (h : At l many count a0 many a pre) (hp : pre.length ≤ count) : Rd.runs many count none (l.drop a0) = if pre.length = count then some (pre, a - a0) else none := by
  unfold At at h
  rw [h, Nat.sub_self, runs_end]
  by_cases hc : pre.length = count
  · rw [if_pos (by omega), if_pos hc]
    simp
  · rw [if_neg (by omega), if_neg hc]
    rfl

set_option maxHeartbeats 8000000 in
set_option maxRecDepth 100000 in
theorem readRuns_loop (g o c count : Nat) (l : List UInt8) (w : World) (hcount : count ≤ 100000) (hlc : l.length ≤ c) (hm : c ≤ maxLen) (hc : BCells w g o l) (hg : g < w.heap.size) (many a0 : Nat) (hget : Dec.getN l = (many, a0)) (ha0 : a0 ≠ 0) :
    Calls Tryz.prog 199 #[.slice (some ⟨g, o, none⟩) l.length c, .int .i64 count] w fun e w' => Out w w' e ((Rd.runs many count none (l.drop a0)).map fun r => (r.1, a0 + r.2)) ∧ Below w.heap.size w w' := by
  obtain ⟨i0, hi, hz0, hz1, hz2⟩ := info_parts info2
  have hg0 := get_any _ l w (Bs.row hlc hm hc)
  have hle0 := Dec.getN_le l
  have hlt0 := Dec.getN_lt l
  rw [hget] at hg0 hle0 hlt0
  simp only at hg0 hle0 hlt0
  have HG := hide hget
  have HC := hide hc
  have HM := hide hm
  unfold maxLen at hm
  have hz0' : ((a0 : Int) == 0) = false := by simp [ha0]
  clear hc hget
  go_enter Tryz.func199, Tryz.ntmps199
  go_wp2_with fail
  refine hg0.mono ?_
  rintro e w0 ⟨rfl, rfl⟩
  go_wp2
  go_loopw [7, 8, 22] (fun va vl vi wr => ∃ (i a : Nat) (pre : List Int), i ≤ many ∧ vi = .int .u64 i ∧ a0 ≤ a ∧ a ≤ l.length ∧ va = .int .i64 a ∧ pre.length ≤ count ∧ Nown wr w0.heap.size vl pre ∧ Below w0.heap.size w0 wr ∧ Hid (At l many count a0 i a pre)) (fun _ _ vi _ => many - (intOf vi).toNat)
  case atStart => exact ⟨0, a0, [], Nat.zero_le _, rfl, Nat.le_refl _, hle0, rfl, Nat.zero_le _, World.ownsRow_nil _ _ _ _, Below.refl _ _, show At _ _ _ _ _ _ _ by simp [At]⟩
  case round =>
    obtain ⟨i, a, pre, hi', rfl, haa, ha, rfl, hpc, ho, hb, hat⟩ := hrel
    obtain ⟨ao, cap, rfl, hcap, hcm, hsh⟩ := ho.shape
    unfold maxLen at hcm
    have HO := hide ho
    have HB := hide hb
    have HSH := hide hsh
    clear ho hb hsh
    by_cases hlt : i < many
    · have hlti : (i : Int) < many := by omega
      by_cases hac : a = c
      · have hnil : l.drop a = [] := List.drop_eq_nil_of_le (by omega)
        have E := hide (hat.out.none1 hlt (.inl (by rw [hnil]; rfl)))
        subst hac
        have hgn := get_nil (some ⟨g, o, none⟩) 0 wr
        clear hat hnil
        go_wp2_with fail
        refine hgn.mono ?_
        rintro e w' ⟨rfl, rfl⟩
        go_wp2
        go_ret2
        exact ⟨.inl ⟨by rw [E.out]; rfl, rfl⟩, HB.out⟩
      · have hg1 := get_any _ _ wr (Bs.cut (bcells_below HC.out HB.out hg) hlc HM.out ha hac)
        have hac' : ¬ (a : Int) = c := by omega
        have hle1 := Dec.getN_le (l.drop a)
        have hlt1 := Dec.getN_lt (l.drop a)
        rw [List.length_drop] at hle1
        obtain ⟨n, h', hp1⟩ : ∃ n h', Dec.getN (l.drop a) = (n, h') := ⟨_, _, rfl⟩
        have HP1 := hide hp1
        rw [hp1] at hg1 hle1 hlt1
        simp only at hg1 hle1 hlt1
        by_cases hbad : h' = 0 ∨ n = 0 ∨ count - pre.length < n
        · have E := hide (hat.out.none1 hlt (by rw [hp1]; exact hbad))
          clear hat hp1
          rcases (show h' = 0 ∨ (h' ≠ 0 ∧ n = 0) ∨ (h' ≠ 0 ∧ n ≠ 0 ∧ count - pre.length < n) by omega) with h0 | ⟨h0, h1⟩ | ⟨h0, h1, h2⟩
          · have z1 : ((h' : Int) == 0) = true := by simp [h0]
            clear hbad h0
            go_wp2_with fail
            refine hg1.mono ?_
            rintro e w' ⟨rfl, rfl⟩
            go_wp2
            go_ret2
            exact ⟨.inl ⟨by rw [E.out]; rfl, rfl⟩, HB.out⟩
          · have z1 : ((h' : Int) == 0) = false := by simp [h0]
            have z2 : ((n : Int) == 0) = true := by simp [h1]
            clear hbad h0 h1
            go_wp2_with fail
            refine hg1.mono ?_
            rintro e w' ⟨rfl, rfl⟩
            go_wp2
            go_ret2
            exact ⟨.inl ⟨by rw [E.out]; rfl, rfl⟩, HB.out⟩
          · have z1 : ((h' : Int) == 0) = false := by simp [h0]
            have z2 : ((n : Int) == 0) = false := by simp [h1]
            have z3 : (count : Int) - pre.length < n := by omega
            clear hbad h0 h1
            go_wp2_with fail
            refine hg1.mono ?_
            rintro e w' ⟨rfl, rfl⟩
            go_wp2
            go_ret2
            exact ⟨.inl ⟨by rw [E.out]; rfl, rfl⟩, HB.out⟩
        · have z1 : ((h' : Int) == 0) = false := by simp; omega
          have z2 : ((n : Int) == 0) = false := by simp; omega
          have z3 : ¬ (count : Int) - pre.length < n := by omega
          by_cases hac2 : a + h' = c
          · have hnil : l.drop (a + h') = [] := List.drop_eq_nil_of_le (by omega)
            have E := hide (hat.out.none2 hlt hp1 (.inl (by rw [hnil]; rfl)))
            have hgi := getInt_none g o wr
            clear hat hnil hp1
            subst hac2
            simp only [Nat.add_sub_cancel_left] at hg1
            by_cases hp0 : pre.length = 0
            · have hp0' : ¬ (0 : Int) < pre.length := by omega
              clear hp0
              go_wp2_with fail
              refine hg1.mono ?_
              rintro e w' ⟨rfl, rfl⟩
              go_wp2_with fail
              refine hgi.mono ?_
              rintro e w' ⟨rfl, rfl⟩
              go_wp2
              go_ret2
              exact ⟨.inl ⟨by rw [E.out]; rfl, rfl⟩, HB.out⟩
            · obtain ⟨g', rfl, hBg, hcl⟩ := HSH.out (by omega)
              have hlast := hcl (pre.length - 1) (by omega)
              rw [Nat.zero_add] at hlast
              have hp0' : (0 : Int) < pre.length := by omega
              clear hp0 hcl
              generalize pre.getD (pre.length - 1) 0 = y at *
              go_wp2_with fail
              refine hg1.mono ?_
              rintro e w' ⟨rfl, rfl⟩
              go_wp2_with fail
              refine hgi.mono ?_
              rintro e w' ⟨rfl, rfl⟩
              go_wp2
              go_ret2
              exact ⟨.inl ⟨by rw [E.out]; rfl, rfl⟩, HB.out⟩
          · have hgi := getInt_any _ _ wr (Bs.cut (bcells_below HC.out HB.out hg) hlc HM.out (k := a + h') (by omega) hac2)
            have hac3 : ¬ (a : Int) + h' = c := by omega
            have hle2 := Dec.getN_le (l.drop (a + h'))
            rw [List.length_drop] at hle2
            have hfit := Rd.unzig_fits (l.drop (a + h'))
            obtain ⟨x, s, hp2⟩ : ∃ x s, Dec.getN (l.drop (a + h')) = (x, s) := ⟨_, _, rfl⟩
            have N2 := hide (fun hb => hat.out.none2 hlt hp1 hb)
            have ST := hide (fun hs hx => hat.out.step hlt haa hp1 hp2 (by omega) (by omega) (by omega) hs hx)
            rw [hp2] at hgi hle2 hfit N2
            simp only at hgi hle2 hfit N2
            generalize Dec.unzig x = z at *
            clear hp1 hp2 hat HP1 HG
            by_cases hp0 : pre.length = 0
            · have hp0' : ¬ (0 : Int) < pre.length := by omega
              have hpn : pre.getLast? ≠ some z := by
                rw [List.eq_nil_of_length_eq_zero hp0]
                simp
              clear hp0
              by_cases hs0 : s = 0
              · have E := hide (N2.out (.inl hs0))
                have z4 : ((s : Int) == 0) = true := by simp [hs0]
                clear hs0 N2 ST hpn
                go_wp2_with fail
                refine hg1.mono ?_
                rintro e w5 ⟨rfl, rfl⟩
                go_wp2_with fail
                refine hgi.mono ?_
                rintro e w6 ⟨rfl, rfl⟩
                go_wp2
                go_ret2
                exact ⟨.inl ⟨by rw [E.out]; rfl, rfl⟩, HB.out⟩
              · have S2 := hide (ST.out hs0 hpn)
                have z4 : ((s : Int) == 0) = false := by simp [hs0]
                clear N2 ST hpn
                go_wp2_with fail
                refine hg1.mono ?_
                rintro e w5 ⟨rfl, rfl⟩
                go_wp2_with fail
                refine hgi.mono ?_
                rintro e w6 ⟨rfl, rfl⟩
                go_wp2
                go_loopw [8, 74] (fun vl vj wr2 => ∃ j : Nat, j ≤ n ∧ vj = .int .u64 j ∧ Nown wr2 w0.heap.size vl (pre ++ List.replicate j z) ∧ Below w0.heap.size w0 wr2) (fun _ vj _ => n - (intOf vj).toNat)
                case atStart => exact ⟨0, Nat.zero_le _, rfl, by rw [List.replicate_zero, List.append_nil]; exact HO.out, HB.out⟩
                case round =>
                  obtain ⟨j, hj, rfl, hoj, hbj⟩ := hrel
                  by_cases hjn : j < n
                  · have hjn' : (j : Int) < n := by omega
                    have hlen : (pre ++ List.replicate j z).length ≤ 100000 := by simp; omega
                    have hszj := hbj.size
                    go_wp2_with (at_builtin; refine wpList_append_own _ rfl _ _ 30 rfl w0.heap.size 2 i0 (.int .i64 0) 1 8 Tryz.underlying30 hi hz0 hz1 hz2 rfl (by decide) _ _ _ rfl (hoj.alloc _) ⟨wr.heap.size, 0, none⟩ 1 1 [Value.int .i64 z] rfl rfl ?c1 ?c2 ?c3 ?c4 ?c5 ?_)
                    case c1 => first | exact cell_one_new _ _ _ | (intro j u hj; match j, hj with | 0, hj => simp at hj; subst hj; simp [Addr.add])
                    case c2 => first | rfl | (intro u hu; simp at hu; subst hu; rfl) | simp [Value.oneCell']
                    case c3 => unfold maxLen; omega
                    case c4 => omega
                    case c5 => simp; omega
                    intro v' w1 hown' hgrow _
                    have hnx1 : Below w0.heap.size w0 w1 := (hbj.alloc (by omega) _).grown hgrow (by simp; omega) (fun k hk => (hoj.lt k hk).1)
                    have hown2 := nown_snoc (j := j) hown'
                    have H2 := hide hown2
                    clear hown' hgrow hoj hown2
                    go_wp2
                    exact ⟨⟨j + 1, by omega, by go_num, H2.out, hnx1⟩, by simp [intOf]; omega⟩
                  · obtain rfl : j = n := by omega
                    have HOJ := hide hoj
                    clear hoj
                    go_wp2
                    exact ⟨⟨i + 1, a + (h' + s), pre ++ List.replicate j z, by omega, by go_num, by omega, by omega, by go_num, by simp; omega, HOJ.out, hbj, S2.out⟩, by simp [intOf]; omega⟩
            · obtain ⟨g', rfl, hBg, hcl⟩ := HSH.out (by omega)
              have hlast := hcl (pre.length - 1) (by omega)
              rw [Nat.zero_add] at hlast
              have hgl : pre.getLast? = some (pre.getD (pre.length - 1) 0) := by
                rw [List.getLast?_eq_getElem?, List.getD_eq_getElem?_getD, List.getElem?_eq_getElem (by omega)]
                rfl
              have hp0' : (0 : Int) < pre.length := by omega
              generalize pre.getD (pre.length - 1) 0 = y at *
              clear hp0 hcl
              by_cases hbad2 : s = 0 ∨ y = z
              · have E := hide (N2.out (hbad2.imp id (fun h => by rw [hgl, h])))
                have HGL := hide hgl
                clear N2 ST hgl
                rcases (show s = 0 ∨ (s ≠ 0 ∧ y = z) by omega) with hs0 | ⟨hs0, hyz⟩
                · have z4 : ((s : Int) == 0) = true := by simp [hs0]
                  clear hs0 hbad2
                  go_wp2_with fail
                  refine hg1.mono ?_
                  rintro e w5 ⟨rfl, rfl⟩
                  go_wp2_with fail
                  refine hgi.mono ?_
                  rintro e w6 ⟨rfl, rfl⟩
                  go_wp2
                  go_ret2
                  exact ⟨.inl ⟨by rw [E.out]; rfl, rfl⟩, HB.out⟩
                · have z4 : ((s : Int) == 0) = false := by simp [hs0]
                  have z5 : (y == z) = true := by simp [hyz]
                  clear hs0 hbad2 hyz
                  go_wp2_with fail
                  refine hg1.mono ?_
                  rintro e w5 ⟨rfl, rfl⟩
                  go_wp2_with fail
                  refine hgi.mono ?_
                  rintro e w6 ⟨rfl, rfl⟩
                  go_wp2
                  go_ret2
                  exact ⟨.inl ⟨by rw [E.out]; rfl, rfl⟩, HB.out⟩
              · have hs0 : s ≠ 0 := fun h => hbad2 (.inl h)
                have S2 := hide (ST.out hs0 (by rw [hgl]; intro h; exact hbad2 (.inr (Option.some.inj h))))
                have z4 : ((s : Int) == 0) = false := by simp [hs0]
                have z5 : (y == z) = false := by rw [beq_eq_false_iff_ne]; exact fun h => hbad2 (.inr h)
                clear N2 ST hgl hbad2
                go_wp2_with fail
                refine hg1.mono ?_
                rintro e w5 ⟨rfl, rfl⟩
                go_wp2_with fail
                refine hgi.mono ?_
                rintro e w6 ⟨rfl, rfl⟩
                go_wp2
                go_loopw [8, 74] (fun vl vj wr2 => ∃ j : Nat, j ≤ n ∧ vj = .int .u64 j ∧ Nown wr2 w0.heap.size vl (pre ++ List.replicate j z) ∧ Below w0.heap.size w0 wr2) (fun _ vj _ => n - (intOf vj).toNat)
                case atStart => exact ⟨0, Nat.zero_le _, rfl, by rw [List.replicate_zero, List.append_nil]; exact HO.out, HB.out⟩
                case round =>
                  obtain ⟨j, hj, rfl, hoj, hbj⟩ := hrel
                  by_cases hjn : j < n
                  · have hjn' : (j : Int) < n := by omega
                    have hlen : (pre ++ List.replicate j z).length ≤ 100000 := by simp; omega
                    have hszj := hbj.size
                    go_wp2_with (at_builtin; refine wpList_append_own _ rfl _ _ 30 rfl w0.heap.size 2 i0 (.int .i64 0) 1 8 Tryz.underlying30 hi hz0 hz1 hz2 rfl (by decide) _ _ _ rfl (hoj.alloc _) ⟨wr.heap.size, 0, none⟩ 1 1 [Value.int .i64 z] rfl rfl ?c1 ?c2 ?c3 ?c4 ?c5 ?_)
                    case c1 => first | exact cell_one_new _ _ _ | (intro j u hj; match j, hj with | 0, hj => simp at hj; subst hj; simp [Addr.add])
                    case c2 => first | rfl | (intro u hu; simp at hu; subst hu; rfl) | simp [Value.oneCell']
                    case c3 => unfold maxLen; omega
                    case c4 => omega
                    case c5 => simp; omega
                    intro v' w1 hown' hgrow _
                    have hnx1 : Below w0.heap.size w0 w1 := (hbj.alloc (by omega) _).grown hgrow (by simp; omega) (fun k hk => (hoj.lt k hk).1)
                    have hown2 := nown_snoc (j := j) hown'
                    have H2 := hide hown2
                    clear hown' hgrow hoj hown2
                    go_wp2
                    exact ⟨⟨j + 1, by omega, by go_num, H2.out, hnx1⟩, by simp [intOf]; omega⟩
                  · obtain rfl : j = n := by omega
                    have HOJ := hide hoj
                    clear hoj
                    go_wp2
                    exact ⟨⟨i + 1, a + (h' + s), pre ++ List.replicate j z, by omega, by go_num, by omega, by omega, by go_num, by simp; omega, HOJ.out, hbj, S2.out⟩, by simp [intOf]; omega⟩
    · obtain rfl : i = many := by omega
      have E := hide (hat.out.done hpc)
      clear hat
      by_cases hcc : pre.length = count
      · have z1 : ((pre.length : Int) != count) = false := by rw [bne_eq_false_iff_eq]; omega
        go_wp2
        go_ret2
        refine ⟨.inr ⟨pre, a, _, ?_, rfl, HO.out⟩, HB.out⟩
        rw [E.out, if_pos hcc]
        simp
        omega
      · have z1 : ((pre.length : Int) != count) = true := by rw [bne_iff_ne]; omega
        go_wp2
        go_ret2
        exact ⟨.inl ⟨by rw [E.out, if_neg hcc]; rfl, rfl⟩, HB.out⟩
end Go.Proofs.YtafmiolehlagkaaGreat.Pak

namespace Go.Proofs.YtafmiolehlagkaaGreat.Pak
open Go.RowKit
set_option maxRecDepth 100000

set_option maxHeartbeats 1000000 in
set_option maxRecDepth 100000 in
theorem readRuns_none (v : Value) (l : List UInt8) (count : Nat) (w : World) (h : Bs w v l) (h0 : (Dec.getN l).2 = 0) :
    Calls Tryz.prog 199 #[v, .int .i64 count] w fun e w' => e = .returned (.tuple #[.slice none 0 0, .int .i64 0]) ∧ w' = w := by
  have hg := get_any v l w h
  rw [h0, Dec.getN_none h0] at hg
  have hg' : Calls Tryz.prog 176 #[v] w fun e w' => e = .returned (.tuple #[.int .u64 0, .int .i64 0]) ∧ w' = w := hg
  clear hg h h0
  go_enter Tryz.func199, Tryz.ntmps199
  go_wp2_with fail
  refine hg'.mono ?_
  rintro e w' ⟨rfl, rfl⟩
  go_wp2
  go_ret2
  exact ⟨rfl, rfl⟩

theorem readRuns_any (v : Value) (l : List UInt8) (count : Nat) (w : World) (h : Bs w v l) (hcount : count ≤ 100000) :
    Calls Tryz.prog 199 #[v, .int .i64 count] w fun e w' => Out w w' e (Rd.form l 2 count) ∧ Below w.heap.size w w' := by
  by_cases h0 : (Dec.getN l).2 = 0
  · refine (readRuns_none v l count w h h0).mono ?_
    rintro e w' ⟨rfl, rfl⟩
    exact ⟨.inl ⟨by unfold Rd.form; rw [if_pos rfl, if_pos h0], rfl⟩, Below.refl _ _⟩
  · have e : Rd.form l 2 count = (Rd.runs (Dec.getN l).1 count none (l.drop (Dec.getN l).2)).map fun r => (r.1, (Dec.getN l).2 + r.2) := by
      unfold Rd.form
      rw [if_pos rfl, if_neg h0]
    rw [e]
    rcases h.parts with ⟨ao, c, rfl, rfl⟩ | ⟨g, o, c, rfl, hp, hlc, hm, hc⟩
    · exact absurd rfl h0
    · exact readRuns_loop g o c count l w hcount hlc hm hc (World.block_lt_of_cell? w _ (hc 0 hp)) _ _ rfl h0

/-! ### readForm -/
/-- The first k numbers summed up. -/
def sumsTo (zs : List Int) (k : Nat) : List Int := (Rd.sums zs).take k ++ zs.drop k
theorem sumsFrom_at : ∀ (p : Int) (zs : List Int) (k : Nat), k < zs.length → (Rd.sumsFrom p zs).getD k 0 = wrap64 (zs.getD k 0 + if k = 0 then p else (Rd.sumsFrom p zs).getD (k - 1) 0)
  | p, [], k, h => by simp at h
  | p, z :: r, 0, _ => by simp [Rd.sumsFrom]
  | p, z :: r, k + 1, h => by
    have := sumsFrom_at (wrap64 (z + p)) r k (by simpa using h)
    simp only [Rd.sumsFrom, List.getD_cons_succ, Nat.add_sub_cancel]
    rw [this]
    cases k with
    | zero => simp
    | succ k => simp
theorem sums_at {zs : List Int} {k : Nat} (h : k + 1 < zs.length) : (Rd.sums zs).getD (k + 1) 0 = wrap64 (zs.getD (k + 1) 0 + (Rd.sums zs).getD k 0) := by
  cases zs with
  | nil => simp at h
  | cons z r =>
    have := sumsFrom_at z r k (by simpa using h)
    simp only [Rd.sums, List.getD_cons_succ]
    rw [this]
    cases k with
    | zero => simp
    | succ k => simp
theorem sums_zero (zs : List Int) : (Rd.sums zs).getD 0 0 = zs.getD 0 0 := by cases zs <;> simp [Rd.sums]
theorem sums_length (zs : List Int) : (Rd.sums zs).length = zs.length := by
  cases zs with
  | nil => rfl
  | cons z r => simp [Rd.sums, (Rd.sumsFrom_facts z r).1]
theorem sumsTo_length (zs : List Int) {k : Nat} (h : k ≤ zs.length) : (sumsTo zs k).length = zs.length := by
  have := sums_length zs
  simp [sumsTo]
  omega
theorem sumsTo_zero (zs : List Int) : sumsTo zs 0 = zs := by simp [sumsTo]
theorem sumsTo_one (zs : List Int) : sumsTo zs 1 = zs := by cases zs <;> simp [sumsTo, Rd.sums]
theorem sumsTo_all (zs : List Int) : sumsTo zs zs.length = Rd.sums zs := by
  simp [sumsTo, ← sums_length zs]
theorem sumsTo_at (zs : List Int) {k j : Nat} (hk : k ≤ zs.length) (_hj : j < zs.length) : (sumsTo zs k).getD j 0 = if j < k then (Rd.sums zs).getD j 0 else zs.getD j 0 := by
  have hs := sums_length zs
  unfold sumsTo
  rw [List.getD_eq_getElem?_getD, List.getElem?_append]
  split
  · rename_i h
    simp at h
    rw [if_pos (by omega), List.getElem?_take, if_pos (by omega), List.getD_eq_getElem?_getD]
  · rename_i h
    simp at h
    rw [if_neg (by omega), List.getElem?_drop, List.getD_eq_getElem?_getD]
    congr 2
    simp
    omega
theorem sumsTo_set (zs : List Int) {k : Nat} (hk : k < zs.length) : (sumsTo zs k).set k ((Rd.sums zs).getD k 0) = sumsTo zs (k + 1) := by
  apply List.ext_getElem?
  intro j
  have l1 := sumsTo_length zs (k := k) (by omega)
  have l2 := sumsTo_length zs (k := k + 1) (by omega)
  by_cases hj : j < zs.length
  · have a1 := sumsTo_at zs (k := k + 1) (j := j) (by omega) hj
    have a0 := sumsTo_at zs (k := k) (j := j) (by omega) hj
    rw [List.getElem?_set]
    rw [List.getD_eq_getElem?_getD, List.getElem?_eq_getElem (by omega)] at a1 a0
    rw [List.getElem?_eq_getElem (l := sumsTo zs (k + 1)) (by omega)]
    simp only [Option.getD_some] at a1 a0
    rw [a1]
    split
    · rename_i h
      subst h
      rw [if_pos (by omega), if_pos (by omega)]
    · rw [List.getElem?_eq_getElem (by omega), a0]
      congr 1
      by_cases hjk : j < k
      · rw [if_pos hjk, if_pos (by omega)]
      · rw [if_neg hjk, if_neg (by omega)]
  · rw [List.getElem?_eq_none (by simp; omega), List.getElem?_eq_none (by omega)]

set_option maxHeartbeats 4000000 in
set_option maxRecDepth 100000 in
theorem readForm_any (v : Value) (l : List UInt8) (f count : Nat) (w : World) (h : Bs w v l) (hf : f ≤ 2) (hpos : 1 ≤ count) (hcount : count ≤ 100000) :
    Calls Tryz.prog 177 #[v, .int .i64 f, .int .i64 count] w fun e w' => Out w w' e (Rd.form l f count) ∧ Below w.heap.size w w' := by
  rcases (show f = 2 ∨ f = 0 ∨ f = 1 by omega) with rfl | rfl | rfl
  · have hr := readRuns_any v l count w h hcount
    have H := hide hr
    clear hr h
    go_enter Tryz.func177, Tryz.ntmps177
    go_wp2_with fail
    refine H.out.mono ?_
    rintro e w1 ⟨ho, hb⟩
    rcases ho with ⟨hn, rfl⟩ | ⟨zs, t, v1, hs, rfl, hown⟩
    · go_wp2
      go_ret2
      exact ⟨.inl ⟨hn, rfl⟩, hb⟩
    · have HO := hide hown
      clear hown
      go_wp2
      go_ret2
      exact ⟨.inr ⟨zs, t, v1, hs, rfl, HO.out⟩, hb⟩
  · have hr := readNumbers_any v l count w h hpos hcount
    have H := hide hr
    have E := hide (show Rd.form l 0 count = (Rd.nums count l).map fun r => (r.1, r.2) from rfl)
    clear hr h
    go_enter Tryz.func177, Tryz.ntmps177
    go_wp2_with fail
    refine H.out.mono ?_
    rintro e w1 ⟨ho, hb⟩
    rcases ho with ⟨hn, _, rfl, rfl⟩ | ⟨zs, t, g, hs, rfl, hg, hrow⟩
    · go_wp2
      go_ret2
      exact ⟨.inl ⟨by rw [E.out, hn]; rfl, rfl⟩, hb⟩
    · have hl := (Rd.nums_facts _ _ _ _ hs).1
      have HO := hide (hrow.own hg (by simp [maxLen]; omega))
      have HS := hide hs
      clear hrow hs hl
      go_wp2
      go_ret2
      exact ⟨.inr ⟨zs, t, _, by rw [E.out, HS.out]; rfl, rfl, HO.out⟩, hb⟩
  · have hr := readNumbers_any v l count w h hpos hcount
    have H := hide hr
    have E := hide (show Rd.form l 1 count = (Rd.nums count l).map fun r => (Rd.sums r.1, r.2) from rfl)
    clear hr h
    go_enter Tryz.func177, Tryz.ntmps177
    go_wp2_with fail
    refine H.out.mono ?_
    rintro e w1 ⟨ho, hb⟩
    rcases ho with ⟨hn, _, rfl, rfl⟩ | ⟨zs, t, g, hs, rfl, hg, hrow⟩
    · have HN := hide hn
      clear hn
      go_wp2
      refine wp_loop_rounds 1 ?_
      rw [rounds_succ]
      go_wp2
      go_ret2
      exact ⟨.inl ⟨by rw [E.out, HN.out]; rfl, rfl⟩, hb⟩
    · have hl := (Rd.nums_facts _ _ _ _ hs).1
      have hl' : zs.length ≤ 100000 := by omega
      have HS := hide hs
      have HR := hide hrow
      have HB := hide hb
      clear hrow hs hl hb
      go_wp2
      go_loopw [28] (fun vi wr => ∃ k : Nat, k ≤ zs.length ∧ vi = .int .i64 k ∧ Nrow wr g (sumsTo zs k) ∧ Below w.heap.size w wr) (fun vi _ => zs.length - (intOf vi).toNat)
      case atStart => exact ⟨0, Nat.zero_le _, rfl, by rw [sumsTo_zero]; exact HR.out, HB.out⟩
      case round =>
        obtain ⟨k, hk, rfl, hrow, hb⟩ := hrel
        have HRr := hide hrow
        have HBr := hide hb
        clear hrow hb
        by_cases hlt : k < zs.length
        · have e1 : (k : Int) < (zs.length : Int) := by omega
          by_cases hk0 : k = 0
          · subst hk0
            go_wp2
            refine ⟨⟨1, by omega, by go_num, ?_, HBr.out⟩, by simp [intOf]; omega⟩
            have := HRr.out
            rw [sumsTo_zero] at this
            rw [sumsTo_one zs]
            exact this
          · obtain ⟨m, rfl⟩ : ∃ m, k = m + 1 := ⟨k - 1, by omega⟩
            have c1 := HRr.out.cells (m + 1) (by rw [sumsTo_length zs (by omega)]; omega)
            have c2 := HRr.out.cells m (by rw [sumsTo_length zs (by omega)]; omega)
            have hfz := HRr.out.frozen (m + 1)
            rw [sumsTo_at zs (by omega) (by omega), if_neg (by omega), Nat.zero_add] at c1
            rw [sumsTo_at zs (by omega) (by omega), if_pos (by omega), Nat.zero_add] at c2
            have ES := hide (sums_at (zs := zs) (k := m) hlt)
            generalize zs.getD (m + 1) 0 = x at *
            generalize (Rd.sums zs).getD m 0 = y at *
            go_wp2
            go_region
            all_goals go_wp2
            refine ⟨⟨m + 1 + 1, by omega, by go_num, ?_, (HBr.out.setCell hg _).drew⟩, by simp [intOf]; omega⟩
            have := HRr.out.set (m + 1) (wrap64 (x + y))
            rw [← ES.out, sumsTo_set zs hlt] at this
            rw [← ES.out]
            exact this
        · obtain rfl : k = zs.length := by omega
          go_wp2
          go_ret2
          have hrow := HRr.out
          rw [sumsTo_all] at hrow
          have ho := hrow.own hg (by rw [sums_length]; simp [maxLen]; omega)
          rw [sums_length] at ho
          exact ⟨.inr ⟨Rd.sums zs, t, .slice (some ⟨g, 0, none⟩) zs.length zs.length, by rw [E.out, HS.out]; rfl, rfl, ho⟩, HBr.out⟩

theorem form_nil (f : Nat) {n : Nat} (h : 1 ≤ n) : Rd.form [] f n = none := by
  unfold Rd.form
  split
  · rfl
  · rw [nums_few (by simp; omega)]
    rfl
theorem form_pos {b : List UInt8} {f n : Nat} {zs : List Int} {t : Nat} (h : Rd.form b f n = some (zs, t)) (hn : 1 ≤ n) : 1 ≤ t := by
  unfold Rd.form at h
  split at h
  · split at h
    · cases h
    · obtain ⟨⟨zr, tr⟩, hr, he⟩ := Option.map_eq_some_iff.1 h
      obtain ⟨rfl, rfl⟩ := Prod.mk.inj he
      show 1 ≤ (Dec.getN b).2 + tr
      omega
  · obtain ⟨⟨zr, tr⟩, hr, he⟩ := Option.map_eq_some_iff.1 h
    obtain ⟨_, rfl⟩ := Prod.mk.inj he
    have := (Rd.nums_facts _ _ _ _ hr).2.2.1
    show 1 ≤ tr
    omega
theorem owns_drew' {B e n size : Nat} {v : Value} {xs : List Value} {w w' : World} (h : w.ownsRow B e size v n xs) (hd : ∃ d, w' = w.drewN d) : w'.ownsRow B e size v n xs := by
  obtain ⟨d, rfl⟩ := hd
  exact h
theorem below_drew' {B : Nat} {w w' : World} (h : ∃ d, w' = w.drewN d) : Below B w w' := by
  obtain ⟨d, rfl⟩ := h
  exact ⟨rfl, rfl, rfl, Nat.le_refl _, fun _ _ => rfl⟩
/-! ### GetRow -/
def GotRow (w w' : World) (e : Ending) (r : List Int × Nat) : Prop := ∃ v, e = .returned (.tuple #[v, .int .i64 (r.2 : Nat)]) ∧ Nown w' w.heap.size v r.1
theorem got_none {w w' : World} : GotRow w w' (.returned (.tuple #[.slice none 0 0, .int .i64 0])) ([], 0) := ⟨_, rfl, World.ownsRow_nil _ _ _ _⟩

set_option maxHeartbeats 4000000 in
set_option maxRecDepth 100000 in
theorem getRow_any (v : Value) (l : List UInt8) (most : Int) (w : World) (h : Bs w v l) (h0 : -9223372036854775808 ≤ most) (h1 : most ≤ 9223372036854775807) :
    Calls Tryz.prog 128 #[v, .int .i64 most] w fun e w' => GotRow w w' e (Rd.row l most) ∧ Below w.heap.size w w' := by
  have hg0 := get_any v l w h
  have hle0 := Dec.getN_le l
  have hlt0 := Dec.getN_lt l
  have hten := Dec.getN_ten l
  obtain ⟨n, k, hp⟩ : ∃ n k, Dec.getN l = (n, k) := ⟨_, _, rfl⟩
  rw [hp] at hg0 hle0 hlt0 hten
  simp only at hg0 hle0 hlt0 hten
  have R := hide hp
  clear hp
  by_cases hbad : k = 0 ∨ most < 0 ∨ min most 100000 < (n : Int)
  · have E := hide (show Rd.row l most = ([], 0) by unfold Rd.row; rw [R.out]; simp only; rw [if_pos hbad])
    clear R
    obtain ⟨ao, c, rfl, hlc, hm, _⟩ := h
    unfold maxLen at hm
    rcases (show k = 0 ∨ (k ≠ 0 ∧ most < 0) ∨ (k ≠ 0 ∧ ¬ most < 0 ∧ most ≤ 100000 ∧ most < (n : Int)) ∨ (k ≠ 0 ∧ ¬ most < 0 ∧ ¬ most ≤ 100000 ∧ 100000 < (n : Int)) by omega) with a | ⟨a, b⟩ | ⟨a, b, d, e⟩ | ⟨a, b, d, e⟩
    · have z1 : ((k : Int) == 0) = true := by simp [a]
      clear a hbad
      go_enter Tryz.func128, Tryz.ntmps128
      go_wp2_with fail
      refine hg0.mono ?_
      rintro e w1 ⟨rfl, rfl⟩
      go_wp2
      go_ret2
      rw [E.out]
      exact ⟨got_none, Below.refl _ _⟩
    · have z1 : ((k : Int) == 0) = false := by simp [a]
      clear a hbad
      go_enter Tryz.func128, Tryz.ntmps128
      go_wp2_with fail
      refine hg0.mono ?_
      rintro e w1 ⟨rfl, rfl⟩
      go_wp2
      go_ret2
      rw [E.out]
      exact ⟨got_none, Below.refl _ _⟩
    · have z1 : ((k : Int) == 0) = false := by simp [a]
      clear a hbad
      go_enter Tryz.func128, Tryz.ntmps128
      go_wp2_with fail
      refine hg0.mono ?_
      rintro e w1 ⟨rfl, rfl⟩
      go_wp2
      go_ret2
      rw [E.out]
      exact ⟨got_none, Below.refl _ _⟩
    · have z1 : ((k : Int) == 0) = false := by simp [a]
      clear a hbad
      go_enter Tryz.func128, Tryz.ntmps128
      go_wp2_with fail
      refine hg0.mono ?_
      rintro e w1 ⟨rfl, rfl⟩
      go_wp2
      go_ret2
      rw [E.out]
      exact ⟨got_none, Below.refl _ _⟩
  · have z1 : ((k : Int) == 0) = false := by simp; omega
    have hmost : ¬ most < 0 := by omega
    have hn : n ≤ 100000 := by omega
    have hnm : (n : Int) ≤ most := by omega
    by_cases hn0 : n = 0
    · have E := hide (show Rd.row l most = ([], k) by unfold Rd.row; rw [R.out]; simp only; rw [if_neg hbad, if_pos hn0])
      obtain ⟨ao, c, rfl, hlc, hm, _⟩ := h
      unfold maxLen at hm
      have z2 : ((n : Int) == 0) = true := by simp [hn0]
      clear R hbad hn0
      rcases (show most ≤ 100000 ∨ ¬ most ≤ 100000 by omega) with b | b
      all_goals
        go_enter Tryz.func128, Tryz.ntmps128
        go_wp2_with fail
        refine hg0.mono ?_
        rintro e w1 ⟨rfl, rfl⟩
        go_wp2
        go_ret2
        rw [E.out]
        exact ⟨⟨_, rfl, World.ownsRow_nil _ _ _ _⟩, Below.refl _ _⟩
    · have z2 : ((n : Int) == 0) = false := by simp [hn0]
      by_cases hkl : k = l.length
      · have E := hide (show Rd.row l most = ([], 0) by unfold Rd.row; rw [R.out]; simp only; rw [if_neg hbad, if_neg hn0, if_pos (.inl hkl)])
        obtain ⟨ao, c, rfl, hlc, hm, _⟩ := h
        unfold maxLen at hm
        have z3 : ((k : Int) == (l.length : Int)) = true := by rw [beq_iff_eq]; omega
        clear R hbad hn0 hkl
        rcases (show most ≤ 100000 ∨ ¬ most ≤ 100000 by omega) with b | b
        all_goals
          go_enter Tryz.func128, Tryz.ntmps128
          go_wp2_with fail
          refine hg0.mono ?_
          rintro e w1 ⟨rfl, rfl⟩
          go_wp2
          go_ret2
          rw [E.out]
          exact ⟨got_none, Below.refl _ _⟩
      · have z3 : ((k : Int) == (l.length : Int)) = false := by rw [beq_eq_false_iff_ne]; omega
        have hklt : k < l.length := by omega
        have e1 : (k : Int) < (l.length : Int) := by omega
        rcases h.parts with ⟨ao, c, rfl, rfl⟩ | ⟨g, o, c, rfl, hpos, hlc, hm, hc⟩
        · simp at hklt
        have hck := hc k hklt
        have hgd : l.getD k 0 = l[k] := by rw [List.getD_eq_getElem?_getD, List.getElem?_eq_getElem hklt]; rfl
        have hb256 := (l[k]).toNat_lt
        have HM := hide hm
        have HC := hide hc
        unfold maxLen at hm
        by_cases hf3 : 3 ≤ l[k].toNat
        · have E := hide (show Rd.row l most = ([], 0) by unfold Rd.row; rw [R.out]; simp only; rw [if_neg hbad, if_neg hn0, if_pos (.inr (by rw [hgd]; exact hf3))])
          have z4 : (3 : Int) ≤ l[k].toNat := by omega
          clear R hbad hn0 hkl hc hgd
          generalize l[k].toNat = f at *
          rcases (show most ≤ 100000 ∨ ¬ most ≤ 100000 by omega) with b | b
          all_goals
            go_enter Tryz.func128, Tryz.ntmps128
            go_wp2_with fail
            refine hg0.mono ?_
            rintro e w1 ⟨rfl, rfl⟩
            go_wp2
            go_ret2
            rw [E.out]
            exact ⟨got_none, Below.refl _ _⟩
        · have E := hide (show Rd.row l most = match Rd.form (l.drop (k + 1)) l[k].toNat n with | none => ([], 0) | some (zs, s) => if Rw.best zs ≠ l[k].toNat then ([], 0) else (zs, k + 1 + s) by
            unfold Rd.row; rw [R.out]; simp only; rw [if_neg hbad, if_neg hn0, if_neg (by rw [hgd]; omega), hgd]; rfl)
          have z4 : ¬ (3 : Int) ≤ l[k].toNat := by omega
          clear R hbad hc hgd
          generalize l[k].toNat = f at *
          by_cases hkc : k + 1 = c
          · have hnil : l.drop (k + 1) = [] := List.drop_eq_nil_of_le (by omega)
            have hrf := readForm_any (.slice (some ⟨g, o, none⟩) 0 0) [] f n w ⟨some ⟨g, o, none⟩, 0, rfl, Nat.le_refl _, Nat.zero_le _, fun j hj => absurd hj (by simp)⟩ (by omega) (by omega) hn
            have E2 := hide (show Rd.row l most = ([], 0) by rw [E.out, hnil, form_nil f (by omega)])
            rw [form_nil f (by omega)] at hrf
            have HF := hide hrf
            clear hrf hnil E
            subst hkc
            rcases (show most ≤ 100000 ∨ ¬ most ≤ 100000 by omega) with b | b
            all_goals
              go_enter Tryz.func128, Tryz.ntmps128
              go_wp2_with fail
              refine hg0.mono ?_
              rintro e w1 ⟨rfl, rfl⟩
              go_wp2_with fail
              refine HF.out.mono ?_
              rintro e w2 ⟨ho, hb⟩
              rcases ho with ⟨_, rfl⟩ | ⟨zs, t, v1, hs, _, _⟩
              · go_wp2
                go_ret2
                rw [E2.out]
                exact ⟨got_none, hb⟩
              · cases hs
          · have hrf := readForm_any _ _ f n w (Bs.cut HC.out hlc HM.out (k := k + 1) (by omega) hkc) (by omega) (by omega) hn
            have hkc' : ¬ (k : Int) + 1 = c := by omega
            have HF := hide hrf
            have hll : l.length ≤ 9223372036854775807 := by omega
            clear hrf
            rcases (show most ≤ 100000 ∨ ¬ most ≤ 100000 by omega) with b | b
            all_goals
              go_enter Tryz.func128, Tryz.ntmps128
              go_wp2_with fail
              refine hg0.mono ?_
              rintro e w1 ⟨rfl, rfl⟩
              go_wp2_with fail
              refine HF.out.mono ?_
              rintro e w2 ⟨ho, hb⟩
              rcases ho with ⟨hno, rfl⟩ | ⟨zs, t, v1, hs, rfl, hown⟩
              · go_wp2
                go_ret2
                rw [E.out, hno]
                exact ⟨got_none, hb⟩
              · obtain ⟨hzl, htl, hfit⟩ := Rd.form_facts hs
                have htp := form_pos hs (by omega)
                obtain ⟨ao, cap, rfl, hcap, hcm, hsh⟩ := hown.shape
                obtain ⟨g1, rfl, hB1, hc1⟩ := hsh (by omega)
                have hsf := shortest_any g1 0 cap zs w2 hfit (by omega) hc1
                have hb2 := Rw.best_le zs
                have E3 := hide (show Rd.row l most = if Rw.best zs ≠ f then ([], 0) else (zs, k + 1 + t) by rw [E.out, hs])
                have z5 : ((t : Int) == 0) = false := by simp; omega
                rw [List.length_drop] at htl
                have HO := hide hown
                have HB := hide hb
                have HSF := hide hsf
                have HZ := hide hzl
                clear hs hown hb hsf hfit hc1 hsh hzl HF
                generalize Rw.best zs = q at *
                go_wp2_with fail
                refine HSF.out.mono ?_
                rintro e w3 ⟨rfl, hd⟩
                have HD := hide hd
                clear hd HSF
                by_cases hq : q = f
                · have z6 : ((q : Int) != f) = false := by rw [bne_eq_false_iff_eq]; omega
                  have HQ := hide hq
                  clear hq
                  go_wp2
                  go_ret2
                  rw [E3.out, if_neg (by simpa using HQ.out)]
                  exact ⟨⟨_, by simp, owns_drew' HO.out HD.out⟩, HB.out.trans (below_drew' HD.out)⟩
                · have z6 : ((q : Int) != f) = true := by rw [bne_iff_ne]; omega
                  go_wp2
                  go_ret2
                  rw [E3.out, if_pos hq]
                  exact ⟨got_none, HB.out.trans (below_drew' HD.out)⟩
end Go.Proofs.YtafmiolehlagkaaGreat.Pak
