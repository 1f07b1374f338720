/-
  The document's Scan of records.
-/
import Derived.Test.YtkohlhnkaklnpaaRefTake
namespace Go.Proofs.Ytkohlhnkaklnpaa
open Go.RowKit
/-- Lists within a list, each of the call's own, with whatever room behind them. -/
def Listed (w : World) (B : Nat) (v : Value) (ds : List (List UInt8)) : Prop :=
  ∃ vs, w.ownsRow B 22 1 v ds.length vs ∧ vs.length = ds.length ∧ ∀ i (h1 : i < vs.length) (h2 : i < ds.length), w.ownsRow B 5 1 vs[i] ds[i].length (Lib.byteCells ds[i])
theorem Listed.nil (w : World) (B : Nat) : Listed w B (.slice none 0 0) [] := ⟨[], World.ownsRow_nil _ _ _ _, rfl, fun i h1 => absurd h1 (by simp)⟩
theorem Listed.later {w w' : World} {B : Nat} {v : Value} {ds : List (List UInt8)} (h : Listed w B v ds) (hb : Below w.heap.size w w') : Listed w' B v ds := by
  obtain ⟨vs, h1, h2, h3⟩ := h
  refine ⟨vs, h1.kept (grown_later hb) (by cases v.ownBlock <;> simp), h2, fun i i1 i2 => (h3 i i1 i2).kept (grown_later hb) (by cases vs[i].ownBlock <;> simp)⟩
/-- A row of bytes and a row of slices share no block. -/
theorem kinds_ap {w : World} {B B' n n' : Nat} {u v : Value} {xs ys : List Value} (h : w.ownsRow B 5 1 u n xs) (h2 : w.ownsRow B' 22 1 v n' ys) : Ap u v := by
  intro g hu hv
  rcases h.2 with ⟨rfl, _⟩ | ⟨g1, c1, cur1, rfl, _, e1, _⟩
  · simp [Value.ownBlock] at hu
  · rcases h2.2 with ⟨rfl, _⟩ | ⟨g2, c2, cur2, rfl, _, e2, _⟩
    · simp [Value.ownBlock] at hv
    · simp only [Value.ownBlock, Option.some.injEq] at hu hv
      subst hu
      subst hv
      rw [e1] at e2
      simp at e2
theorem Listed.push {w w3 : World} {B : Nat} {v v3 u : Value} {ds : List (List UInt8)} {d : List UInt8} {vs : List Value} {o : Obj} (h : Listed w B v ds) (hv : w.ownsRow B 22 1 v ds.length vs) (hu : w.ownsRow B 5 1 u d.length (Lib.byteCells d)) (hg : World.grownBy (w.alloc o) w3 v.ownBlock) (ho : w3.ownsRow B 22 1 v3 (ds.length + 1) (vs ++ [u])) : Listed w3 B v3 (ds ++ [d]) := by
  obtain ⟨vs', h1, h2, h3⟩ := h
  obtain rfl : vs' = vs := by
    rcases h1.2 with ⟨e, h0⟩ | ⟨g1, c1, cur1, e, _, e1, _, _, _, t1⟩
    · have a1 := h1.1
      have a2 := hv.1
      rw [List.eq_nil_of_length_eq_zero (l := vs') (by omega), List.eq_nil_of_length_eq_zero (l := vs) (by omega)]
    · rcases hv.2 with ⟨e', h0⟩ | ⟨g2, c2, cur2, e', _, e2, _, _, _, t2⟩
      · rw [e] at e'
        simp at e'
      · rw [e] at e'
        simp only [Value.slice.injEq, Option.some.injEq, Addr.mk.injEq, and_true, true_and] at e'
        obtain ⟨rfl, rfl⟩ := e'
        rw [e1] at e2
        simp only [Option.some.injEq, Obj.cells.injEq, and_true] at e2
        subst e2
        exact t1.symm.trans t2
  have keep : ∀ {x : Value} {n : Nat} {l : List Value}, w.ownsRow B 5 1 x n l → w3.ownsRow B 5 1 x n l := fun {x n l} hx => by
    refine (hx.alloc o).kept hg ?_
    cases hb : x.ownBlock with
    | none => exact .inl rfl
    | some q => exact .inr (fun e => kinds_ap hx h1 q hb e.symm)
  refine ⟨vs' ++ [u], by rw [List.length_append]; exact ho, by simp [h2], fun i i1 i2 => ?_⟩
  by_cases hi : i < vs'.length
  · rw [List.getElem_append_left hi]
    simp only [List.getElem_append_left (show i < ds.length by omega)]
    exact keep (h3 i hi (by omega))
  · have hi' : i = vs'.length := by simp at i1; omega
    subst hi'
    simp only [List.getElem_concat_length, h2]
    exact keep hu

set_option maxHeartbeats 4000000 in
set_option maxRecDepth 100000 in
theorem refscan_nil (ao : Option Addr) (c : Nat) (w : World) (hn : NilOr (.slice ao 0 c)) (hm : c ≤ maxLen) :
    Calls Try.prog 27 #[.slice ao 0 c] w fun e w' => e = .returned (.tuple #[.slice none 0 0, .int .i64 0]) ∧ Below w.heap.size w w' := by
  have hg := reftake_any (.slice ao 0 c) [] w ⟨ao, c, rfl, Nat.zero_le _, hm, fun j hj => absurd hj (by simp)⟩
  have HG := hide hg
  clear hg
  unfold maxLen at hm
  rcases hn with hn | ⟨ad, m, c', hn⟩
  · simp only [Value.slice.injEq] at hn
    obtain ⟨rfl, _, rfl⟩ := hn
    go_enter Try.func27, Try.ntmps27
    go_wp2_with fail
    refine wp_loop_rounds 1 ?_
    rw [rounds_succ]
    go_wp2_with fail
    refine HG.out.mono ?_
    rintro e w2 ⟨v2, rfl, _, hb2⟩
    rw [show Rc.get [] = ([], 0) from rfl]
    go_wp2_with fail
    go_ret2
    exact ⟨rfl, hb2⟩
  · simp only [Value.slice.injEq] at hn
    obtain ⟨rfl, rfl, rfl⟩ := hn
    go_enter Try.func27, Try.ntmps27
    go_wp2_with fail
    refine wp_loop_rounds 1 ?_
    rw [rounds_succ]
    go_wp2_with fail
    refine HG.out.mono ?_
    rintro e w2 ⟨v2, rfl, _, hb2⟩
    rw [show Rc.get [] = ([], 0) from rfl]
    go_wp2_with fail
    go_ret2
    exact ⟨rfl, hb2⟩

set_option maxHeartbeats 4000000 in
set_option maxRecDepth 100000 in
theorem refscan_some (g o c : Nat) (b : List UInt8) (w : World) (hp : 0 < b.length) (hl : b.length ≤ 1000000000000) (h1 : b.length ≤ c) (h2 : c ≤ maxLen) (h3 : ∀ j (hj : j < b.length), w.cell? ⟨g, o + j, none⟩ = some (.int .u8 (b[j]).toNat)) :
    Calls Try.prog 27 #[.slice (some ⟨g, o, none⟩) b.length c] w fun e w' => ∃ v' ds k, e = .returned (.tuple #[v', .int .i64 (k : Nat)]) ∧ Rc.Told b ds k ∧ (Rc.get (b.drop k)).2 = 0 ∧ Listed w' w.heap.size v' ds ∧ Below w.heap.size w w' := by
  have H3 := hide h3
  have H2 := hide h2
  have hglt := World.block_lt_of_cell? w _ (h3 0 hp)
  clear h3
  unfold maxLen at h2
  obtain ⟨i0, hi, hz0, hz1, hz2⟩ := info_parts info22
  go_enter Try.func27, Try.ntmps27
  go_wp2_with fail
  go_loopw [4, 5] (fun v4 v5 wr => ∃ (ds : List (List UInt8)) (k : Nat), v5 = .int .i64 k ∧ Rc.Told b ds k ∧ Listed wr w.heap.size v4 ds ∧ Below w.heap.size w wr) (fun _ v5 _ => b.length - (intOf v5).toNat)
  case atStart => exact ⟨[], 0, rfl, .none, Listed.nil _ _, Below.refl _ _⟩
  case round =>
    obtain ⟨ds, k, rfl, ht, hs, hb⟩ := hrel
    have hk := ht.le
    have hkc : (k : Int) ≤ (c : Int) := by omega
    have hkl : (k : Int) ≤ (b.length : Int) := by omega
    have h3' : ∀ j (hj : j < b.length), wr.cell? ⟨g, o + j, none⟩ = some (.int .u8 (b[j]).toNat) := fun j hj => (hb.cell (p := ⟨g, o + j, none⟩) hglt).trans (H3.out j hj)
    have hg := reftake_any _ _ wr (Bs.drop (w := wr) k hk h1 H2.out h3')
    have HS := hide hs
    have HT := hide ht
    clear hs ht h3'
    by_cases hc : k = c
    · subst hc
      rw [if_pos rfl] at hg
      have e0 : b.drop k = [] := List.drop_eq_nil_of_le (by omega)
      have HG := hide hg
      have hlk : b.length - k = 0 := by omega
      clear hg
      go_wp2_with fail
      refine HG.out.mono ?_
      rintro e w2 ⟨v2, rfl, _, hb2⟩
      have eg : Rc.get (b.drop k) = ([], 0) := by rw [e0]; rfl
      rw [eg]
      have EG := hide eg
      have HB2 := hide hb2
      clear eg hb2 HG e0
      go_wp2_with fail
      go_ret2
      exact ⟨_, ds, k, rfl, HT.out, by rw [EG.out], HS.out.later HB2.out, hb.trans (HB2.out.mono hb.size)⟩
    · rw [if_neg hc] at hg
      have hc' : ¬ c = k := fun e => hc e.symm
      have HG := hide hg
      clear hg
      go_wp2_with fail
      refine HG.out.mono ?_
      rintro e w2 ⟨v2, rfl, hp2, hb2⟩
      have hs2 := hb2.size
      have hs0 := hb.size
      by_cases hz : (Rc.get (b.drop k)).2 = 0
      · have z : (((Rc.get (b.drop k)).2 : Int) == 0) = true := by simp [hz]
        have HZ := hide hz
        have HB2 := hide hb2
        clear hz hb2 HG hp2
        go_wp2_with fail
        go_ret2
        exact ⟨_, ds, k, rfl, HT.out, HZ.out, HS.out.later HB2.out, hb.trans (HB2.out.mono hb.size)⟩
      · have z : (((Rc.get (b.drop k)).2 : Int) == 0) = false := by rw [beq_eq_false_iff_ne]; omega
        have hgl := Rc.get_le (b.drop k)
        rw [List.length_drop] at hgl
        have h7 := Rc.get_seven hz
        have hct := HT.out.count
        have HS2 := hide (HS.out.later hb2)
        obtain ⟨vs, ho, _, _⟩ := HS2.out
        have HLO := hide ho.lt
        obtain ⟨ao2, c2, rfl⟩ := own_len hp2
        have HP2 := hide hp2
        have HO := hide ho
        have HB2 := hide hb2
        have HN := hide (Rc.Told.more HT.out hz)
        clear hz hb2 hp2 HG ho
        generalize hS : (Rc.get (b.drop k)).2 = s at *
        generalize hD : (Rc.get (b.drop k)).1 = d at *
        clear hS hD
        go_wp2_with (at_builtin; refine wpList_append_own _ rfl _ _ 34 rfl w.heap.size 22 i0 (.slice none 0 0) 1 24 Try.underlying34 hi hz0 hz1 hz2 rfl (by decide) _ _ _ rfl (HO.out.alloc _) ⟨w2.heap.size, 0, none⟩ 1 1 [.slice ao2 d.length c2] rfl rfl ?c1 ?c2 ?c3 ?c4 ?c5 ?_)
        case c1 =>
          intro j u hj
          match j, hj with
          | 0, hj => simp at hj; subst hj; simp [Addr.add]
        case c2 => intro u hu; simp at hu; subst hu; rfl
        case c3 => unfold maxLen; omega
        case c4 => omega
        case c5 => simp; omega
        intro v3 w3 ho3 hg3 _
        have HO3 := hide ho3
        have HG3 := hide hg3
        clear ho3 hg3
        go_wp2_with fail
        go_roundw
        case rel =>
          have ha := (Below.refl w2.heap.size w2).alloc (Nat.le_refl _) (.cells #[.slice ao2 d.length c2] 22)
          have hsa : (w2.alloc (.cells #[.slice ao2 d.length c2] 22)).heap.size = w2.heap.size + 1 := by simp
          have hb3 : Below w.heap.size w w3 := ((hb.trans (HB2.out.mono hs0)).trans (ha.mono (by omega))).grown HG3.out (by omega) (fun k hk => (HLO.out k hk).1)
          exact ⟨ds ++ [d], k + s, by go_num, HN.out, Listed.push HS2.out HO.out (own_lower HP2.out hs0) HG3.out HO3.out, hb3⟩
        case measure => simp [intOf]; omega


theorem refscan_any (v : Value) (b : List UInt8) (w : World) (h : Bs w v b) (hn : NilOr v) (hl : b.length ≤ 1000000000000) :
    Calls Try.prog 27 #[v] w fun e w' => ∃ v' ds k, e = .returned (.tuple #[v', .int .i64 (k : Nat)]) ∧ Rc.Told b ds k ∧ (Rc.get (b.drop k)).2 = 0 ∧ Listed w' w.heap.size v' ds ∧ Below w.heap.size w w' := by
  obtain ⟨ao0, c0, rfl, h1, h2, h3⟩ := id h
  rcases h.parts with ⟨ao, c, e, rfl⟩ | ⟨g, o, c, e, hp, h1', h2', h3'⟩
  · simp only [Value.slice.injEq] at e
    obtain ⟨rfl, _, rfl⟩ := e
    exact (refscan_nil ao0 c0 w hn h2).mono fun e w' ⟨he, hb⟩ => ⟨_, [], 0, he, .none, rfl, Listed.nil _ _, hb⟩
  · rw [e]
    exact refscan_some g o c b w hp hl h1' h2' h3'
namespace Rc
/-- What is told up to the first bytes that are none is told once. -/
theorem told_same : ∀ (ds ds' : List (List UInt8)) (b : List UInt8) (k k' : Nat), Told b ds k → (get (b.drop k)).2 = 0 → Told b ds' k' → (get (b.drop k')).2 = 0 → ds = ds' ∧ k = k'
  | [], ds', b, k, k', h, he, h', he' => by
    obtain rfl : k = 0 := h
    rw [List.drop_zero] at he
    obtain ⟨rfl, rfl⟩ := told_stop he h'
    exact ⟨rfl, rfl⟩
  | d :: ds, [], b, k, k', h, he, h', he' => by
    obtain rfl : k' = 0 := h'
    rw [List.drop_zero] at he'
    exact absurd he' h.1
  | d :: ds, d' :: ds', b, k, k', ⟨a1, a2, a3, a4⟩, he, ⟨b1, b2, b3, b4⟩, he' => by
    rw [show k = (get b).2 + (k - (get b).2) by omega, ← List.drop_drop] at he
    rw [show k' = (get b).2 + (k' - (get b).2) by omega, ← List.drop_drop] at he'
    obtain ⟨rfl, e⟩ := told_same ds ds' _ _ _ a4 he b4 he'
    exact ⟨by rw [a2, b2], by omega⟩
end Rc
end Go.Proofs.Ytkohlhnkaklnpaa
