/-
  StoreFuses' walk.
-/
import Derived.Test.YtmceoelafmlpjaaShown
namespace Go.Proofs.Ytmceoelafmlpjaa
open Go.RowKit
/-- A list of lists of bytes that came in. -/
def Ls (w : World) (v : Value) (ls : List (List UInt8)) : Prop :=
  ∃ ao c, v = .slice ao ls.length c ∧ ls.length ≤ c ∧ c ≤ maxLen ∧ ∀ i (h : i < ls.length), ∃ g o ua un uc, ao = some ⟨g, o, none⟩ ∧ w.cell? ⟨g, o + i, none⟩ = some (.slice ua un uc) ∧ Bs w (.slice ua un uc) ls[i] ∧ NilOr (.slice ua un uc)
theorem Ls.below {B : Nat} {w w' : World} {v : Value} {ls : List (List UInt8)} (h : Ls w v ls) (hb : Below B w w') (hB : w.heap.size ≤ B) : Ls w' v ls := by
  obtain ⟨ao, c, rfl, h1, h2, h3⟩ := h
  refine ⟨ao, c, rfl, h1, h2, fun i hi => ?_⟩
  obtain ⟨g, o, ua, un, uc, e, hc, hbs, hn⟩ := h3 i hi
  exact ⟨g, o, ua, un, uc, e, (hb.cell (p := ⟨g, o + i, none⟩) (Nat.lt_of_lt_of_le (World.block_lt_of_cell? w _ hc) hB)).trans hc, hbs.below hb hB, hn⟩
theorem St.kept {w w' : World} {B g : Nat} {v : Value} {l : List UInt8} {n : Nat} {on : Bool} {f : Int} {row : Option Nat} (h : St w B g v l n on f) (hg : w.grownBy w' row) (h1 : row ≠ some g) (h2 : ∀ k, row = some k → v.ownBlock ≠ some k) : St w' B g v l n on f := by
  obtain ⟨a1, a2, a3⟩ := h
  refine ⟨(hg.block g (Array.getElem?_eq_some_iff.1 a1).1 (fun e => h1 e.symm)).trans a1, a2.kept hg ?_, a3⟩
  cases hv : v.ownBlock with
  | none => exact .inl rfl
  | some k => exact .inr (fun e => h2 k e.symm hv)
/-- A store, and a row of the law's own beside it. -/
def Bd (W : World) (B g : Nat) (u : Value) (a l : List UInt8) (n : Nat) (on : Bool) (f : Int) : Prop :=
  ∃ v, St W B g v l n on f ∧ W.ownsRow B 5 1 u a.length (Lib.byteCells a) ∧ u.ownBlock ≠ some g ∧ Ap u v
/-- The row grows. -/
theorem Bd.grow {W W' : World} {B g : Nat} {u u' : Value} {a q l : List UInt8} {n : Nat} {on : Bool} {f : Int} (h : Bd W B g u a l n on f) (ho : W'.ownsRow B 5 1 u' (a.length + q.length) (Lib.byteCells a ++ Lib.byteCells q)) (hg : W.grownBy W' u.ownBlock) (ha : u'.ownBlock = u.ownBlock ∨ u'.ownBlock = some W.heap.size) : Bd W' B g u' (a ++ q) l n on f := by
  obtain ⟨v, h1, h2, h3, h4⟩ := h
  rw [← Lib.byteCells_append] at ho
  refine ⟨v, h1.kept hg h3 (fun k e hv => h4 k e hv), by rw [List.length_append]; exact ho, ?_, fun k hu hv => ?_⟩
  · rcases ha with e | e <;> rw [e]
    · exact h3
    · have := h1.lt
      simp
      omega
  · rcases ha with e | e <;> rw [e] at hu
    · exact h4 k hu hv
    · cases hu
      have := (h1.2.1.lt _ hv).2
      omega
/-- The store turns. -/
theorem Bd.turn {W W' : World} {B g : Nat} {u v v' : Value} {a l' : List UInt8} {n' : Nat} {on' : Bool} {f' : Int} (h2 : W.ownsRow B 5 1 u a.length (Lib.byteCells a)) (h3 : u.ownBlock ≠ some g) (h4 : Ap u v) (hs : St W' B g v' l' n' on' f') (ho : On W W' g v v') : Bd W' B g u a l' n' on' f' := by
  refine ⟨v', hs, ?_, h3, fun k hu hv => ?_⟩
  · refine ⟨h2.1, ?_⟩
    rcases h2.2 with h0 | ⟨k, cap, cur, rfl, hb, hg, hr⟩
    · exact .inl h0
    · exact .inr ⟨k, cap, cur, rfl, hb, (ho.1.2.2.2.2 k (Array.getElem?_eq_some_iff.1 hg).1 (fun e => h3 e) (fun e => h4 k rfl e.symm)).trans hg, hr⟩
  · rcases ho.2 k hv with h | h
    · exact h4 k hu h
    · have := (h2.lt k hu).2
      omega
theorem Bd.later {W W' : World} {B g : Nat} {u : Value} {a l : List UInt8} {n : Nat} {on : Bool} {f : Int} (h : Bd W B g u a l n on f) (hb : Below W.heap.size W W') : Bd W' B g u a l n on f := by
  obtain ⟨v, h1, h2, h3, h4⟩ := h
  exact ⟨v, h1.later hb, h2.kept (grown_later hb) (by cases u.ownBlock <;> simp), h3, h4⟩
/-- Append, beside the row. -/
theorem append_bd (g B : Nat) (u vb : Value) (a b l : List UInt8) (f : Nat) (w : World) (h : Bd w B g u a l 0 true f) (hb : Bs w vb b) (hnb : NilOr vb) (hm : l.length + b.length ≤ 16777216) :
    Calls Try.prog 12 #[.pointer (some ⟨g, 0, none⟩), vb] w fun e w' => ((b.length ≤ f ∧ e = .returned (.int .i64 0) ∧ Bd w' B g u a (l ++ b) 0 true ((f - b.length : Nat) : Int)) ∨ (f < b.length ∧ e = .returned (.int .i64 30) ∧ Bd w' B g u a (l ++ b.take f) (l.length + f) false (-1))) ∧ Below B w w' := by
  obtain ⟨v, h1, h2, h3, h4⟩ := h
  by_cases hf : b.length ≤ f
  · refine (append_fuse g B v vb l b 0 f w h1 hb hnb hm hf).mono ?_
    rintro e w' ⟨v', rfl, hs, ho⟩
    exact ⟨.inl ⟨hf, rfl, Bd.turn h2 h3 h4 hs ho⟩, ho.below h1⟩
  · refine (append_burst g B v vb l b 0 f w h1 hb hnb hm (by omega)).mono ?_
    rintro e w' ⟨v', rfl, hs, ho⟩
    exact ⟨.inr ⟨by omega, rfl, Bd.turn h2 h3 h4 hs ho⟩, ho.below h1⟩
set_option maxHeartbeats 8000000 in
set_option maxRecDepth 100000 in
theorem fuses_walk (r : Int) (vl : Value) (ls : List (List UInt8)) (w : World) (hl : Ls w vl ls) (h0 : -9223372036854775808 ≤ r) (h1 : r ≤ 9223372036854775807) :
    Calls Try.prog 5 #[.int .i64 r, vl] w fun e w' => e = .returned (.bool true) ∧ Below w.heap.size w w' := by
  obtain ⟨aol, cl, rfl, hl1, hl2, _⟩ := id hl
  unfold maxLen at hl2
  have HL := hide hl
  have HSH := hide (shown_any w)
  have hpl := pk_lt r (n := 2000) (by omega)
  obtain ⟨p, hp⟩ : ∃ p, p = pk r 2000 := ⟨_, rfl⟩
  rw [← hp] at hpl
  have HPK : Hid (∀ w : World, Calls Try.prog 11 #[.int .i64 r, .int .i64 2000] w fun e w' => e = .returned (.int .i64 p) ∧ w' = w) := fun w => by
    rw [hp]
    exact pick_any r 2000 w h0 h1 (by omega) (by omega)
  clear hl hp
  go_enter Try.func5, Try.ntmps5
  go_wp2_with fail
  refine HSH.out.mono ?_
  rintro e w1 ⟨rfl, be1⟩
  have HL1 := hide (HL.out.below be1 (Nat.le_refl _))
  have BE1 := hide be1
  have HN := hide (new_any (.slice none 0 0) [] w1 (Bs.nil w1) (by simp))
  clear be1 HSH HL
  go_wp2_with fail
  refine HN.out.mono ?_
  rintro e w2 ⟨g, v2, rfl, hs2, hb2⟩
  have HS2 := hide hs2
  have HB2 := hide hb2
  clear hs2 hb2 HN
  go_wp2_with fail
  refine (HPK.out w2).mono ?_
  rintro e w3 ⟨rfl, rfl⟩
  have HF := hide (fuse_any g _ v2 _ _ _ (p : Int) _ HS2.out (by omega) (by omega))
  clear HPK
  go_wp2_with fail
  refine HF.out.mono ?_
  rintro e w4 ⟨rfl, hs4, ho4⟩
  have HBD : Hid (Bd w4 w1.heap.size g (.slice none 0 0) [] [] 0 true ((p : Nat) : Int)) := ⟨v2, hs4, World.ownsRow_nil _ _ _ _, by simp [Value.ownBlock], fun k hk => by simp [Value.ownBlock] at hk⟩
  have HB4 := hide (HB2.out.trans (ho4.below HS2.out))
  clear hs4 ho4 HF HS2 HB2
  go_upto_block 0 with fail
  go_cut [8, 9] (fun v8 v9 wx => ∃ a : List UInt8, a.length ≤ 10000 ∧ Hid (Below w1.heap.size w1 wx) ∧ ((v9 = .bool false ∧ a.length ≤ p ∧ Hid (Bd wx w1.heap.size g v8 a a 0 true ((p - a.length : Nat) : Int))) ∨ (v9 = .bool true ∧ p < a.length ∧ Hid (Bd wx w1.heap.size g v8 a (a.take p) p false (-1)))))
  case first =>
    go_wp2_with fail
    go_loopw [7, 8, 9, 10] (fun v7 v8 v9 v10 wr => ∃ (i : Nat) (a : List UInt8), i ≤ ls.length ∧ i ≤ 100 ∧ a.length ≤ 100 * i ∧ v10 = .int .i64 i ∧ Hid (Below w1.heap.size w1 wr) ∧ ((v7 = .int .i64 0 ∧ v9 = .bool false ∧ a.length ≤ p ∧ Hid (Bd wr w1.heap.size g v8 a a 0 true ((p - a.length : Nat) : Int))) ∨ (v7 = .int .i64 30 ∧ v9 = .bool true ∧ p < a.length ∧ Hid (Bd wr w1.heap.size g v8 a (a.take p) p false (-1))))) (fun _ _ _ v10 _ => ls.length - (intOf v10).toNat)
    case atStart => exact ⟨0, [], Nat.zero_le _, by omega, by simp, rfl, HB4, .inl ⟨rfl, rfl, Nat.zero_le _, HBD⟩⟩
    case round =>
      obtain ⟨i, a, hi, hi100, ha, rfl, HBE, hst⟩ := hrel
      rcases hst with ⟨rfl, rfl, hap, HD⟩ | ⟨rfl, rfl, hap, HD⟩
      · by_cases hlt : i < ls.length ∧ i < 100
        · obtain ⟨hlt, hlt100⟩ := hlt
          have e1 : (i : Int) < (ls.length : Int) := by omega
          have e2 : (i : Int) < 100 := by omega
          obtain ⟨_, _, ee, _, _, hcs⟩ := id HL1.out
          simp only [Value.slice.injEq] at ee
          obtain ⟨rfl, _, rfl⟩ := ee
          obtain ⟨gl, o, ua, un, uc, rfl, hcell1, hbs, hnil⟩ := hcs i hlt
          clear hcs
          obtain ⟨_, _, ee, hu1, hu2, _⟩ := id hbs
          simp only [Value.slice.injEq] at ee
          obtain ⟨rfl, rfl, rfl⟩ := ee
          unfold maxLen at hu2
          have hcell := (HBE.out.cell (p := ⟨gl, o + i, none⟩) (World.block_lt_of_cell? w1 _ hcell1)).trans hcell1
          have hbw : w1.heap.size ≤ wr.heap.size := HBE.out.size
          obtain ⟨v, _, hO, _, _⟩ := id HD.out
          obtain ⟨ao8, c8, rfl⟩ := own_len hO
          have hcap8 := own_cap hO
          have HO := hide hO
          clear hO hcell1
          by_cases hbig : 100 < ls[i].length
          · have e3 : (ls[i].length : Int) > 100 := by omega
            have hq100 : (ls[i].take 100).length = 100 := by rw [List.length_take]; omega
            have HQ1 := hide (bs_take hbs (k := 100) (by omega))
            have HQ := hide (HQ1.out.below HBE.out (Nat.le_refl _))
            have hnq : NilOr (.slice ua 100 uc) := by
              rcases hnil with e | ⟨ad, m, c', e⟩
              · simp only [Value.slice.injEq] at e
                omega
              · simp only [Value.slice.injEq] at e
                exact .inr ⟨ad, 100, uc, by rw [e.1]⟩
            have huc : 100 ≤ uc := by omega
            clear hbs hnil
            go_wp2_with (at_builtin; refine wpList_append_at _ rfl _ _ rfl w1.heap.size _ _ _ rfl HO.out _ (ls[i].take 100) rfl HQ.out hnq (by omega) hbw ?_)
            intro u9 w5 ho5 hg5 ha5
            obtain ⟨ao5, c5, rfl⟩ := own_len ho5
            have hbe5 : Below w1.heap.size w1 w5 := HBE.out.grown hg5 hbw (fun k e => (HO.out.lt k e).1)
            have hbd5 := Bd.grow (q := (ls[i].take 100)) HD.out (by rw [hq100]; exact ho5) hg5 ha5
            have HAP := hide (append_bd g w1.heap.size _ _ _ (ls[i].take 100) a (p - a.length) w5 hbd5 (HQ1.out.below hbe5 (Nat.le_refl _)) hnq (by omega))
            have HBE5 := hide hbe5
            have elen : (a ++ (ls[i].take 100)).length = a.length + (ls[i].take 100).length := List.length_append
            have ELEN := hide elen
            clear ho5 hg5 ha5 hbe5 hbd5 HQ HO HD elen
            go_wp2_with fail
            refine HAP.out.mono ?_
            rintro e w6 ⟨hcase, hb6⟩
            have HBE6 := hide (HBE5.out.trans hb6)
            clear HAP HBE5 hb6
            rcases hcase with ⟨hle, rfl, hbd6⟩ | ⟨hgt, rfl, hbd6⟩
            · have HBD6 := hide hbd6
              have t1 : ¬ (a.length : Int) + (100 : Int) > (p : Int) := by omega
              have t2 : decide ((p : Int) < (a.length : Int) + (100 : Int)) = false := by simp; omega
              clear hbd6
              go_wp2_with fail
              go_roundw
              case rel =>
                refine ⟨i + 1, a ++ (ls[i].take 100), by omega, by omega, by rw [ELEN.out]; omega, by go_num, HBE6, .inl ⟨rfl, rfl, by rw [ELEN.out]; omega, ?_⟩⟩
                rw [ELEN.out, ← Nat.sub_sub]
                exact HBD6.out
              case measure => simp [intOf]; omega
            · have HBD6 := hide hbd6
              have t1 : (a.length : Int) + (100 : Int) > (p : Int) := by omega
              have t2 : decide ((p : Int) < (a.length : Int) + (100 : Int)) = true := by simp; omega
              clear hbd6
              go_wp2_with fail
              go_roundw
              case rel =>
                refine ⟨i + 1, a ++ (ls[i].take 100), by omega, by omega, by rw [ELEN.out]; omega, by go_num, HBE6, .inr ⟨rfl, rfl, by rw [ELEN.out]; omega, ?_⟩⟩
                have := HBD6.out
                rw [show a.length + (p - a.length) = p by omega] at this
                rw [List.take_append, List.take_of_length_le hap]
                exact this
              case measure => simp [intOf]; omega
          · have e3 : ¬ (ls[i].length : Int) > 100 := by omega
            have HQ1 := hide hbs
            have HQ := hide (HQ1.out.below HBE.out (Nat.le_refl _))
            have hnq := hnil
            clear hbs hnil
            go_wp2_with (at_builtin; refine wpList_append_at _ rfl _ _ rfl w1.heap.size _ _ _ rfl HO.out _ ls[i] rfl HQ.out hnq (by omega) hbw ?_)
            intro u9 w5 ho5 hg5 ha5
            obtain ⟨ao5, c5, rfl⟩ := own_len ho5
            have hbe5 : Below w1.heap.size w1 w5 := HBE.out.grown hg5 hbw (fun k e => (HO.out.lt k e).1)
            have hbd5 := Bd.grow (q := ls[i]) HD.out ho5 hg5 ha5
            have HAP := hide (append_bd g w1.heap.size _ _ _ ls[i] a (p - a.length) w5 hbd5 (HQ1.out.below hbe5 (Nat.le_refl _)) hnq (by omega))
            have HBE5 := hide hbe5
            have elen : (a ++ ls[i]).length = a.length + ls[i].length := List.length_append
            have ELEN := hide elen
            clear ho5 hg5 ha5 hbe5 hbd5 HQ HO HD elen
            go_wp2_with fail
            refine HAP.out.mono ?_
            rintro e w6 ⟨hcase, hb6⟩
            have HBE6 := hide (HBE5.out.trans hb6)
            clear HAP HBE5 hb6
            rcases hcase with ⟨hle, rfl, hbd6⟩ | ⟨hgt, rfl, hbd6⟩
            · have HBD6 := hide hbd6
              have t1 : ¬ (a.length : Int) + (ls[i].length : Int) > (p : Int) := by omega
              have t2 : decide ((p : Int) < (a.length : Int) + (ls[i].length : Int)) = false := by simp; omega
              clear hbd6
              go_wp2_with fail
              go_roundw
              case rel =>
                refine ⟨i + 1, a ++ ls[i], by omega, by omega, by rw [ELEN.out]; omega, by go_num, HBE6, .inl ⟨rfl, rfl, by rw [ELEN.out]; omega, ?_⟩⟩
                rw [ELEN.out, ← Nat.sub_sub]
                exact HBD6.out
              case measure => simp [intOf]; omega
            · have HBD6 := hide hbd6
              have t1 : (a.length : Int) + (ls[i].length : Int) > (p : Int) := by omega
              have t2 : decide ((p : Int) < (a.length : Int) + (ls[i].length : Int)) = true := by simp; omega
              clear hbd6
              go_wp2_with fail
              go_roundw
              case rel =>
                refine ⟨i + 1, a ++ ls[i], by omega, by omega, by rw [ELEN.out]; omega, by go_num, HBE6, .inr ⟨rfl, rfl, by rw [ELEN.out]; omega, ?_⟩⟩
                have := HBD6.out
                rw [show a.length + (p - a.length) = p by omega] at this
                rw [List.take_append, List.take_of_length_le hap]
                exact this
              case measure => simp [intOf]; omega
        · by_cases hl3 : i < ls.length
          · have e1 : (i : Int) < (ls.length : Int) := by omega
            have e2 : ¬ (i : Int) < 100 := by omega
            go_wp2_with fail
            go_meet
            exact ⟨a, by omega, HBE, .inl ⟨rfl, hap, HD⟩⟩
          · have e1 : ¬ (i : Int) < (ls.length : Int) := by omega
            go_wp2_with fail
            go_meet
            exact ⟨a, by omega, HBE, .inl ⟨rfl, hap, HD⟩⟩
      · by_cases hl3 : i < ls.length
        · have e1 : (i : Int) < (ls.length : Int) := by omega
          by_cases hl4 : i < 100
          · have e2 : (i : Int) < 100 := by omega
            go_wp2_with fail
            go_meet
            exact ⟨a, by omega, HBE, .inr ⟨rfl, hap, HD⟩⟩
          · have e2 : ¬ (i : Int) < 100 := by omega
            go_wp2_with fail
            go_meet
            exact ⟨a, by omega, HBE, .inr ⟨rfl, hap, HD⟩⟩
        · have e1 : ¬ (i : Int) < (ls.length : Int) := by omega
          go_wp2_with fail
          go_meet
          exact ⟨a, by omega, HBE, .inr ⟨rfl, hap, HD⟩⟩
  obtain ⟨a, ha, HBE, hst⟩ := hcut
  obtain ⟨w5, rfl⟩ : ∃ w5, w5 = wc := ⟨_, rfl⟩
  clear HL1 HB4 HBD
  rcases hst with ⟨rfl, hap, HD⟩ | ⟨rfl, hap, HD⟩
  · obtain ⟨v, hS, hO, _, _⟩ := HD.out
    obtain ⟨ao8, c8, rfl⟩ := own_len hO
    have hcap8 := own_cap hO
    have HST := hide (state_any g _ v _ _ _ _ _ hS)
    clear hS hO
    go_wp2_with fail
    refine HST.out.mono ?_
    rintro e w6 ⟨rfl, hb6⟩
    obtain ⟨v6, hS6, hO6, hne6, hap6⟩ := HD.out.later hb6
    have HBE6 := hide (HBE.out.trans (hb6.mono HBE.out.size))
    have HR := hide (restart_any g _ v6 _ _ _ _ _ hS6)
    have HP6 := hide (And.intro hS6 (And.intro hO6 (And.intro hne6 hap6)))
    clear HST hb6 HD HBE hS6 hO6 hne6 hap6
    go_wp2_with fail
    refine HR.out.mono ?_
    rintro e w7 ⟨rfl, hs7, ho7⟩
    obtain ⟨hS6, hO6, hne6, hap6⟩ := HP6.out
    obtain ⟨v7, hS7, hO7, _, _⟩ := Bd.turn hO6 hne6 hap6 hs7 ho7
    have HBE7 := hide (HBE6.out.trans (ho7.below hS6))
    have CV : Hid (∀ W, Below w7.heap.size w7 W → (convert 22 9 (.slice ao8 a.length c8)).run Try.prog W = .ok (.string ⟨(a).toArray⟩) W) := fun W hb => by
      have := conv_bs (bs_take ((own_bs hO7).below hb (Nat.le_refl _)) (k := a.length) (by omega))
      rw [List.take_length] at this
      exact this
    have SS7 : Hid (∀ W : World, Below w7.heap.size w7 W → (Below w7.heap.size w7 W ∧ (convert 22 9 (.slice ao8 a.length c8)).run Try.prog W = .ok (.string ⟨(a).toArray⟩) W)) := fun W hW => ⟨hW, CV.out W hW⟩
    have CB : Hid (∀ W : World, Below w7.heap.size w7 W → Calls Try.prog 15 #[.pointer (some ⟨g, 0, none⟩)] W fun e W' => ∃ v', e = .returned v' ∧ (Bs W' v' (a) ∧ NilOr v') ∧ Below W.heap.size W W') := fun W hW => (bytes_on g _ v7 _ _ _ W (hS7.later hW)).mono (by
      rintro e W' ⟨rfl, hr, hb⟩
      exact ⟨_, rfl, ⟨lit_bs hr (by have := hS7.2.2.2.2.2.1; unfold maxLen; omega), .inr ⟨_, _, _, rfl⟩⟩, hb⟩)
    have z1 : ((ByteArray.mk (List.toArray (a))).toList == (ByteArray.mk (List.toArray (a))).toList) = true := by simp
    have hkc : a.length ≤ c8 := by omega
    have hmin : (if a.length < p then (a.length : Int) else (p : Int)) = (a.length : Int) := by split <;> omega
    clear HR HP6 HBE6 hS6 hO6 hne6 hap6 hs7 ho7 hS7 hO7 CV
    go_wp2_with fail
    refine wp_region_noPanic ?_
    refine wp_region_held_drew (S := (fun W => Below w7.heap.size w7 W ∧ (convert 22 9 (.slice ao8 a.length c8)).run Try.prog W = .ok (.string ⟨(a).toArray⟩) W)) (by kernel_rfl) (SS7.out _ ⟨rfl, rfl, rfl, Nat.le_refl _, fun _ _ => rfl⟩) (fun hHeld => ?_)
    refine' wpAnyH_take (i := 0) (oi := { dst := some 86, op := Op.move (Operand.tmp 14), type := 4, pos := "store.go:279", after := #[], guard := none }) (v := _) rfl (by kernel_rfl) (by kernel_rfl) (by kernel_rfl) (fun _ _ _ h => h) (Or.inl ⟨by rfl, ?hyA_0⟩) (by assumption) ?reA_0
    case hyA_0 => (intro W hSw; (try dsimp only at hSw); go_simp; try with_reducible rfl)
    try simp only [Act.put, List.setIfInBounds_toArray, List.set_cons_zero, List.set_cons_succ]
    refine' wpAnyH_take (i := 1) (oi := { dst := some 87, op := Op.move (Operand.tmp 9), type := 4, pos := "store.go:279", after := #[], guard := none }) (v := _) rfl (by kernel_rfl) (by kernel_rfl) (by kernel_rfl) (fun _ _ _ h => h) (Or.inl ⟨by rfl, ?hyA_1⟩) (by assumption) ?reA_1
    case hyA_1 => (intro W hSw; (try dsimp only at hSw); go_simp; try with_reducible rfl)
    try simp only [Act.put, List.setIfInBounds_toArray, List.set_cons_zero, List.set_cons_succ]
    refine' wpAnyH_take (i := 2) (oi := { dst := some 88, op := Op.binOp BinOp.neq 4 (Operand.tmp 86) (Operand.tmp 87) 4, type := 4, pos := "store.go:279", after := #[{ on := 0, ground := Ground.data }, { on := 1, ground := Ground.data }], guard := none }) (v := _) rfl (by kernel_rfl) (by kernel_rfl) (by kernel_rfl) (fun _ _ _ h => h) (Or.inl ⟨by rfl, ?hyA_2⟩) (by assumption) ?reA_2
    case hyA_2 => (intro W hSw; (try dsimp only at hSw); go_simp; try with_reducible rfl)
    try simp only [Act.put, List.setIfInBounds_toArray, List.set_cons_zero, List.set_cons_succ]
    refine' wpAnyH_take (i := 3) (oi := { dst := some 89, op := Op.move (Operand.tmp 88), type := 4, pos := "store.go:279", after := #[{ on := 2, ground := Ground.data }], guard := none }) (v := _) rfl (by kernel_rfl) (by kernel_rfl) (by kernel_rfl) (fun _ _ _ h => h) (Or.inl ⟨by rfl, ?hyA_3⟩) (by assumption) ?reA_3
    case hyA_3 => (intro W hSw; (try dsimp only at hSw); go_simp; try with_reducible rfl)
    try simp only [Act.put, List.setIfInBounds_toArray, List.set_cons_zero, List.set_cons_succ]
    refine' wpAnyH_take (i := 4) (oi := { dst := some 90, op := Op.move (Operand.tmp 6), type := 33, pos := "store.go:279", after := #[{ on := 3, ground := Ground.guard }], guard := some (3, true) }) (v := _) rfl (by kernel_rfl) (by kernel_rfl) (by kernel_rfl) (fun _ _ _ h => h) (Or.inl ⟨by rfl, ?hyA_4⟩) (by assumption) ?reA_4
    case hyA_4 => (intro W hSw; (try dsimp only at hSw); go_simp; try with_reducible rfl)
    try simp only [Act.put, List.setIfInBounds_toArray, List.set_cons_zero, List.set_cons_succ]
    refine' wpAnyH_take (i := 7) (oi := { dst := some 93, op := Op.move (Operand.tmp 8), type := 22, pos := "store.go:279", after := #[{ on := 3, ground := Ground.guard }], guard := some (3, true) }) (v := _) rfl (by kernel_rfl) (by kernel_rfl) (by kernel_rfl) (fun _ _ _ h => h) (Or.inl ⟨by rfl, ?hyA_7⟩) (by assumption) ?reA_7
    case hyA_7 => (intro W hSw; (try dsimp only at hSw); go_simp; try with_reducible rfl)
    try simp only [Act.put, List.setIfInBounds_toArray, List.set_cons_zero, List.set_cons_succ]
    refine' wpAnyH_take (i := 8) (oi := { dst := some 94, op := Op.move (Operand.tmp 0), type := 3, pos := "store.go:279", after := #[{ on := 3, ground := Ground.guard }], guard := some (3, true) }) (v := _) rfl (by kernel_rfl) (by kernel_rfl) (by kernel_rfl) (fun _ _ _ h => h) (Or.inl ⟨by rfl, ?hyA_8⟩) (by assumption) ?reA_8
    case hyA_8 => (intro W hSw; (try dsimp only at hSw); go_simp; try with_reducible rfl)
    try simp only [Act.put, List.setIfInBounds_toArray, List.set_cons_zero, List.set_cons_succ]
    refine' wpAnyH_take (i := 9) (oi := { dst := some 95, op := Op.move (Operand.tmp 8), type := 22, pos := "store.go:279", after := #[{ on := 3, ground := Ground.guard }], guard := some (3, true) }) (v := _) rfl (by kernel_rfl) (by kernel_rfl) (by kernel_rfl) (fun _ _ _ h => h) (Or.inl ⟨by rfl, ?hyA_9⟩) (by assumption) ?reA_9
    case hyA_9 => (intro W hSw; (try dsimp only at hSw); go_simp; try with_reducible rfl)
    try simp only [Act.put, List.setIfInBounds_toArray, List.set_cons_zero, List.set_cons_succ]
    refine' wpAnyH_take (i := 10) (oi := { dst := some 96, op := Op.call { callee := Callee.builtin Builtin.len, args := #[Operand.tmp 95], argTypes := #[22] }, type := 3, pos := "store.go:279", after := #[{ on := 9, ground := Ground.data }, { on := 3, ground := Ground.guard }], guard := some (3, true) }) (v := _) rfl (by kernel_rfl) (by kernel_rfl) (by kernel_rfl) (fun _ _ _ h => h) (Or.inl ⟨by rfl, ?hyA_10⟩) (by assumption) ?reA_10
    case hyA_10 => (intro W hSw; (try dsimp only at hSw); go_simp; try with_reducible rfl)
    try simp only [Act.put, List.setIfInBounds_toArray, List.set_cons_zero, List.set_cons_succ]
    refine' wpAnyH_take (i := 11) (oi := { dst := some 97, op := Op.call { callee := Callee.builtin Builtin.min, args := #[Operand.tmp 94, Operand.tmp 96], argTypes := #[3, 3] }, type := 3, pos := "store.go:279", after := #[{ on := 8, ground := Ground.data }, { on := 10, ground := Ground.data }, { on := 3, ground := Ground.guard }], guard := some (3, true) }) (v := _) rfl (by kernel_rfl) (by kernel_rfl) (by kernel_rfl) (fun _ _ _ h => h) (Or.inl ⟨by rfl, ?hyA_11⟩) (by assumption) ?reA_11
    case hyA_11 => (intro W hSw; (try dsimp only at hSw); go_simp; try with_reducible rfl)
    try simp only [Act.put, List.setIfInBounds_toArray, List.set_cons_zero, List.set_cons_succ]
    refine' wpAnyH_take (i := 12) (oi := { dst := some 98, op := Op.slice 22 (Operand.tmp 93) none (some (Operand.tmp 97)) none, type := 22, pos := "store.go:279", after := #[{ on := 7, ground := Ground.data }, { on := 11, ground := Ground.data }, { on := 3, ground := Ground.guard }], guard := some (3, true) }) (v := _) rfl (by kernel_rfl) (by kernel_rfl) (by kernel_rfl) (fun _ _ _ h => h) (Or.inl ⟨by rfl, ?hyA_12⟩) (by assumption) ?reA_12
    case hyA_12 => (intro W hSw; (try dsimp only at hSw); go_simp; try with_reducible rfl)
    try simp only [Act.put, List.setIfInBounds_toArray, List.set_cons_zero, List.set_cons_succ]
    refine' wpAnyH_take (i := 13) (oi := { dst := some 99, op := Op.convert 22 9 (Operand.tmp 98), type := 9, pos := "store.go:279", after := #[{ on := 12, ground := Ground.data }, { on := 3, ground := Ground.guard }], guard := some (3, true) }) (v := _) rfl (by kernel_rfl) (by kernel_rfl) (by kernel_rfl) (fun _ _ _ h => h) (Or.inl ⟨by rfl, ?hyA_13⟩) (by assumption) ?reA_13
    case hyA_13 => (intro W hSw; (try dsimp only at hSw); go_simp; try with_reducible rfl)
    try simp only [Act.put, List.setIfInBounds_toArray, List.set_cons_zero, List.set_cons_succ]
    refine wpAnyH_ready (rs := [5]) (by kernel_rfl) (by simp) ?_
    refine AllReadyH.cons (o := { dst := some 91, op := Op.call { callee := Callee.value (Operand.func 15), args := #[Operand.tmp 90], argTypes := #[33] }, type := 22, pos := "store.go:279", after := #[{ on := 4, ground := Ground.data }, { on := 3, ground := Ground.chain }, { on := 3, ground := Ground.guard }], guard := some (3, true) }) rfl (fun K hK => ?_) AllReadyH.nil
    go_simp
    go_at_call 15
    refine (CB.out w7.drew ⟨rfl, rfl, rfl, Nat.le_refl _, fun _ _ => rfl⟩).mono ?_
    clear hHeld
    rintro e w9 ⟨v9, rfl, dw9, bw9⟩
    try go_wp2_with fail
    have Xw9 : Hid (Below w7.heap.size w7 w9) := ⟨bw9.os, bw9.tape, bw9.output, bw9.size, bw9.block⟩
    have BWw9 : Hid (Below w7.heap.size w7 w9) := Xw9.out
    have SSw9 : Hid (∀ W : World, Below w9.heap.size w9 W → (Below w9.heap.size w9 W ∧ (convert 22 9 v9).run Try.prog W = .ok (.string ⟨(a).toArray⟩) W ∧ (convert 22 9 (.slice ao8 a.length c8)).run Try.prog W = .ok (.string ⟨(a).toArray⟩) W)) := fun W hW => ⟨hW, conv_bs (dw9.1.below hW (Nat.le_refl _)), (SS7.out W (Xw9.out.trans (hW.mono Xw9.out.size))).2⟩
    refine hK.out _ _ (SS7.out w9 Xw9.out) (fun _ => ?_)
    refine wpAnyH_more (S' := fun W => Below w9.heap.size w9 W ∧ (convert 22 9 v9).run Try.prog W = .ok (.string ⟨(a).toArray⟩) W ∧ (convert 22 9 (.slice ao8 a.length c8)).run Try.prog W = .ok (.string ⟨(a).toArray⟩) W) (fun W hW => SS7.out W (Xw9.out.trans (hW.1.mono Xw9.out.size))) _ _ _ _ ?_
    have hHeld := SSw9.out w9 (Below.refl _ _)
    clear hK K dw9 bw9
    try simp only [Act.put, List.setIfInBounds_toArray, List.set_cons_zero, List.set_cons_succ]
    refine' wpAnyH_take (i := 6) (oi := { dst := some 92, op := Op.convert 22 9 (Operand.tmp 91), type := 9, pos := "store.go:279", after := #[{ on := 5, ground := Ground.data }, { on := 3, ground := Ground.guard }], guard := some (3, true) }) (v := _) rfl (by kernel_rfl) (by kernel_rfl) (by kernel_rfl) (fun _ _ _ h => h) (Or.inl ⟨by rfl, ?hyA_6⟩) (by assumption) ?reA_6
    case hyA_6 => (intro W hSw; (try dsimp only at hSw); go_simp; try with_reducible rfl)
    try simp only [Act.put, List.setIfInBounds_toArray, List.set_cons_zero, List.set_cons_succ]
    refine' wpAnyH_take (i := 14) (oi := { dst := some 100, op := Op.binOp BinOp.eql 9 (Operand.tmp 92) (Operand.tmp 99) 9, type := 4, pos := "store.go:279", after := #[{ on := 6, ground := Ground.data }, { on := 13, ground := Ground.data }, { on := 3, ground := Ground.guard }], guard := some (3, true) }) (v := _) rfl (by kernel_rfl) (by kernel_rfl) (by kernel_rfl) (fun _ _ _ h => h) (Or.inl ⟨by rfl, ?hyA_14⟩) (by assumption) ?reA_14
    case hyA_14 => (intro W hSw; (try dsimp only at hSw); go_simp; try with_reducible rfl)
    try simp only [Act.put, List.setIfInBounds_toArray, List.set_cons_zero, List.set_cons_succ]
    refine' wpAnyH_take (i := 15) (oi := { dst := some 101, op := Op.pick (Operand.tmp 89) (Operand.tmp 100) (Operand.const (Value.bool false)), type := 4, pos := "store.go:279", after := #[{ on := 3, ground := Ground.data }, { on := 14, ground := Ground.data }], guard := none }) (v := _) rfl (by kernel_rfl) (by kernel_rfl) (by kernel_rfl) (fun _ _ _ h => h) (Or.inl ⟨by rfl, ?hyA_15⟩) (by assumption) ?reA_15
    case hyA_15 => (intro W hSw; (try dsimp only at hSw); go_simp; try with_reducible rfl)
    try simp only [Act.put, List.setIfInBounds_toArray, List.set_cons_zero, List.set_cons_succ]
    refine' wpAnyH_take (i := 16) (oi := { dst := some 4, op := Op.assign (Operand.tmp 101), type := 4, pos := "store.go:279", after := #[{ on := 15, ground := Ground.data }, { on := 5, ground := Ground.chain }, { on := 0, ground := Ground.phase }, { on := 1, ground := Ground.phase }, { on := 2, ground := Ground.phase }, { on := 3, ground := Ground.phase }, { on := 4, ground := Ground.phase }, { on := 5, ground := Ground.phase }, { on := 6, ground := Ground.phase }, { on := 7, ground := Ground.phase }, { on := 8, ground := Ground.phase }, { on := 9, ground := Ground.phase }, { on := 10, ground := Ground.phase }, { on := 11, ground := Ground.phase }, { on := 12, ground := Ground.phase }, { on := 13, ground := Ground.phase }, { on := 14, ground := Ground.phase }, { on := 15, ground := Ground.phase }], guard := none }) (v := _) rfl (by kernel_rfl) (by kernel_rfl) (by kernel_rfl) (fun _ _ _ h => h) (Or.inl ⟨by rfl, ?hyA_16⟩) (by assumption) ?reA_16
    case hyA_16 => (intro W hSw; (try dsimp only at hSw); go_simp; try with_reducible rfl)
    try simp only [Act.put, List.setIfInBounds_toArray, List.set_cons_zero, List.set_cons_succ]
    refine wpAnyH_done (by kernel_rfl) ?_ _
    refine NoPanic.normal ?_
    go_wp2_with fail
    go_ret
    exact ⟨rfl, BE1.out.trans ((HBE7.out.trans (BWw9.out.mono HBE7.out.size)).mono BE1.out.size)⟩
  · obtain ⟨v, hS, hO, _, _⟩ := HD.out
    obtain ⟨ao8, c8, rfl⟩ := own_len hO
    have hcap8 := own_cap hO
    have HST := hide (state_any g _ v _ _ _ _ _ hS)
    clear hS hO
    go_wp2_with fail
    refine HST.out.mono ?_
    rintro e w6 ⟨rfl, hb6⟩
    obtain ⟨v6, hS6, hO6, hne6, hap6⟩ := HD.out.later hb6
    have HBE6 := hide (HBE.out.trans (hb6.mono HBE.out.size))
    have HR := hide (restart_any g _ v6 _ _ _ _ _ hS6)
    have HP6 := hide (And.intro hS6 (And.intro hO6 (And.intro hne6 hap6)))
    clear HST hb6 HD HBE hS6 hO6 hne6 hap6
    go_wp2_with fail
    refine HR.out.mono ?_
    rintro e w7 ⟨rfl, hs7, ho7⟩
    obtain ⟨hS6, hO6, hne6, hap6⟩ := HP6.out
    obtain ⟨v7, hS7, hO7, _, _⟩ := Bd.turn hO6 hne6 hap6 hs7 ho7
    have HBE7 := hide (HBE6.out.trans (ho7.below hS6))
    have CV : Hid (∀ W, Below w7.heap.size w7 W → (convert 22 9 (.slice ao8 p c8)).run Try.prog W = .ok (.string ⟨(a.take p).toArray⟩) W) := fun W hb => by
      have := conv_bs (bs_take ((own_bs hO7).below hb (Nat.le_refl _)) (k := p) (by omega))
      exact this
    have SS7 : Hid (∀ W : World, Below w7.heap.size w7 W → (Below w7.heap.size w7 W ∧ (convert 22 9 (.slice ao8 p c8)).run Try.prog W = .ok (.string ⟨(a.take p).toArray⟩) W)) := fun W hW => ⟨hW, CV.out W hW⟩
    have CB : Hid (∀ W : World, Below w7.heap.size w7 W → Calls Try.prog 15 #[.pointer (some ⟨g, 0, none⟩)] W fun e W' => ∃ v', e = .returned v' ∧ (Bs W' v' (a.take p) ∧ NilOr v') ∧ Below W.heap.size W W') := fun W hW => (bytes_on g _ v7 _ _ _ W (hS7.later hW)).mono (by
      rintro e W' ⟨rfl, hr, hb⟩
      exact ⟨_, rfl, ⟨lit_bs hr (by have := hS7.2.2.2.2.2.1; unfold maxLen; omega), .inr ⟨_, _, _, rfl⟩⟩, hb⟩)
    have z1 : ((ByteArray.mk (List.toArray (a.take p))).toList == (ByteArray.mk (List.toArray (a.take p))).toList) = true := by simp
    have hkc : p ≤ c8 := by omega
    have hmin : (if a.length < p then (a.length : Int) else (p : Int)) = (p : Int) := by split <;> omega
    clear HR HP6 HBE6 hS6 hO6 hne6 hap6 hs7 ho7 hS7 hO7 CV
    go_wp2_with fail
    refine wp_region_noPanic ?_
    refine wp_region_held_drew (S := (fun W => Below w7.heap.size w7 W ∧ (convert 22 9 (.slice ao8 p c8)).run Try.prog W = .ok (.string ⟨(a.take p).toArray⟩) W)) (by kernel_rfl) (SS7.out _ ⟨rfl, rfl, rfl, Nat.le_refl _, fun _ _ => rfl⟩) (fun hHeld => ?_)
    refine' wpAnyH_take (i := 0) (oi := { dst := some 86, op := Op.move (Operand.tmp 14), type := 4, pos := "store.go:279", after := #[], guard := none }) (v := _) rfl (by kernel_rfl) (by kernel_rfl) (by kernel_rfl) (fun _ _ _ h => h) (Or.inl ⟨by rfl, ?hyB_0⟩) (by assumption) ?reB_0
    case hyB_0 => (intro W hSw; (try dsimp only at hSw); go_simp; try with_reducible rfl)
    try simp only [Act.put, List.setIfInBounds_toArray, List.set_cons_zero, List.set_cons_succ]
    refine' wpAnyH_take (i := 1) (oi := { dst := some 87, op := Op.move (Operand.tmp 9), type := 4, pos := "store.go:279", after := #[], guard := none }) (v := _) rfl (by kernel_rfl) (by kernel_rfl) (by kernel_rfl) (fun _ _ _ h => h) (Or.inl ⟨by rfl, ?hyB_1⟩) (by assumption) ?reB_1
    case hyB_1 => (intro W hSw; (try dsimp only at hSw); go_simp; try with_reducible rfl)
    try simp only [Act.put, List.setIfInBounds_toArray, List.set_cons_zero, List.set_cons_succ]
    refine' wpAnyH_take (i := 2) (oi := { dst := some 88, op := Op.binOp BinOp.neq 4 (Operand.tmp 86) (Operand.tmp 87) 4, type := 4, pos := "store.go:279", after := #[{ on := 0, ground := Ground.data }, { on := 1, ground := Ground.data }], guard := none }) (v := _) rfl (by kernel_rfl) (by kernel_rfl) (by kernel_rfl) (fun _ _ _ h => h) (Or.inl ⟨by rfl, ?hyB_2⟩) (by assumption) ?reB_2
    case hyB_2 => (intro W hSw; (try dsimp only at hSw); go_simp; try with_reducible rfl)
    try simp only [Act.put, List.setIfInBounds_toArray, List.set_cons_zero, List.set_cons_succ]
    refine' wpAnyH_take (i := 3) (oi := { dst := some 89, op := Op.move (Operand.tmp 88), type := 4, pos := "store.go:279", after := #[{ on := 2, ground := Ground.data }], guard := none }) (v := _) rfl (by kernel_rfl) (by kernel_rfl) (by kernel_rfl) (fun _ _ _ h => h) (Or.inl ⟨by rfl, ?hyB_3⟩) (by assumption) ?reB_3
    case hyB_3 => (intro W hSw; (try dsimp only at hSw); go_simp; try with_reducible rfl)
    try simp only [Act.put, List.setIfInBounds_toArray, List.set_cons_zero, List.set_cons_succ]
    refine' wpAnyH_take (i := 4) (oi := { dst := some 90, op := Op.move (Operand.tmp 6), type := 33, pos := "store.go:279", after := #[{ on := 3, ground := Ground.guard }], guard := some (3, true) }) (v := _) rfl (by kernel_rfl) (by kernel_rfl) (by kernel_rfl) (fun _ _ _ h => h) (Or.inl ⟨by rfl, ?hyB_4⟩) (by assumption) ?reB_4
    case hyB_4 => (intro W hSw; (try dsimp only at hSw); go_simp; try with_reducible rfl)
    try simp only [Act.put, List.setIfInBounds_toArray, List.set_cons_zero, List.set_cons_succ]
    refine' wpAnyH_take (i := 7) (oi := { dst := some 93, op := Op.move (Operand.tmp 8), type := 22, pos := "store.go:279", after := #[{ on := 3, ground := Ground.guard }], guard := some (3, true) }) (v := _) rfl (by kernel_rfl) (by kernel_rfl) (by kernel_rfl) (fun _ _ _ h => h) (Or.inl ⟨by rfl, ?hyB_7⟩) (by assumption) ?reB_7
    case hyB_7 => (intro W hSw; (try dsimp only at hSw); go_simp; try with_reducible rfl)
    try simp only [Act.put, List.setIfInBounds_toArray, List.set_cons_zero, List.set_cons_succ]
    refine' wpAnyH_take (i := 8) (oi := { dst := some 94, op := Op.move (Operand.tmp 0), type := 3, pos := "store.go:279", after := #[{ on := 3, ground := Ground.guard }], guard := some (3, true) }) (v := _) rfl (by kernel_rfl) (by kernel_rfl) (by kernel_rfl) (fun _ _ _ h => h) (Or.inl ⟨by rfl, ?hyB_8⟩) (by assumption) ?reB_8
    case hyB_8 => (intro W hSw; (try dsimp only at hSw); go_simp; try with_reducible rfl)
    try simp only [Act.put, List.setIfInBounds_toArray, List.set_cons_zero, List.set_cons_succ]
    refine' wpAnyH_take (i := 9) (oi := { dst := some 95, op := Op.move (Operand.tmp 8), type := 22, pos := "store.go:279", after := #[{ on := 3, ground := Ground.guard }], guard := some (3, true) }) (v := _) rfl (by kernel_rfl) (by kernel_rfl) (by kernel_rfl) (fun _ _ _ h => h) (Or.inl ⟨by rfl, ?hyB_9⟩) (by assumption) ?reB_9
    case hyB_9 => (intro W hSw; (try dsimp only at hSw); go_simp; try with_reducible rfl)
    try simp only [Act.put, List.setIfInBounds_toArray, List.set_cons_zero, List.set_cons_succ]
    refine' wpAnyH_take (i := 10) (oi := { dst := some 96, op := Op.call { callee := Callee.builtin Builtin.len, args := #[Operand.tmp 95], argTypes := #[22] }, type := 3, pos := "store.go:279", after := #[{ on := 9, ground := Ground.data }, { on := 3, ground := Ground.guard }], guard := some (3, true) }) (v := _) rfl (by kernel_rfl) (by kernel_rfl) (by kernel_rfl) (fun _ _ _ h => h) (Or.inl ⟨by rfl, ?hyB_10⟩) (by assumption) ?reB_10
    case hyB_10 => (intro W hSw; (try dsimp only at hSw); go_simp; try with_reducible rfl)
    try simp only [Act.put, List.setIfInBounds_toArray, List.set_cons_zero, List.set_cons_succ]
    refine' wpAnyH_take (i := 11) (oi := { dst := some 97, op := Op.call { callee := Callee.builtin Builtin.min, args := #[Operand.tmp 94, Operand.tmp 96], argTypes := #[3, 3] }, type := 3, pos := "store.go:279", after := #[{ on := 8, ground := Ground.data }, { on := 10, ground := Ground.data }, { on := 3, ground := Ground.guard }], guard := some (3, true) }) (v := _) rfl (by kernel_rfl) (by kernel_rfl) (by kernel_rfl) (fun _ _ _ h => h) (Or.inl ⟨by rfl, ?hyB_11⟩) (by assumption) ?reB_11
    case hyB_11 => (intro W hSw; (try dsimp only at hSw); go_simp; try with_reducible rfl)
    try simp only [Act.put, List.setIfInBounds_toArray, List.set_cons_zero, List.set_cons_succ]
    refine' wpAnyH_take (i := 12) (oi := { dst := some 98, op := Op.slice 22 (Operand.tmp 93) none (some (Operand.tmp 97)) none, type := 22, pos := "store.go:279", after := #[{ on := 7, ground := Ground.data }, { on := 11, ground := Ground.data }, { on := 3, ground := Ground.guard }], guard := some (3, true) }) (v := _) rfl (by kernel_rfl) (by kernel_rfl) (by kernel_rfl) (fun _ _ _ h => h) (Or.inl ⟨by rfl, ?hyB_12⟩) (by assumption) ?reB_12
    case hyB_12 => (intro W hSw; (try dsimp only at hSw); go_simp; try with_reducible rfl)
    try simp only [Act.put, List.setIfInBounds_toArray, List.set_cons_zero, List.set_cons_succ]
    refine' wpAnyH_take (i := 13) (oi := { dst := some 99, op := Op.convert 22 9 (Operand.tmp 98), type := 9, pos := "store.go:279", after := #[{ on := 12, ground := Ground.data }, { on := 3, ground := Ground.guard }], guard := some (3, true) }) (v := _) rfl (by kernel_rfl) (by kernel_rfl) (by kernel_rfl) (fun _ _ _ h => h) (Or.inl ⟨by rfl, ?hyB_13⟩) (by assumption) ?reB_13
    case hyB_13 => (intro W hSw; (try dsimp only at hSw); go_simp; try with_reducible rfl)
    try simp only [Act.put, List.setIfInBounds_toArray, List.set_cons_zero, List.set_cons_succ]
    refine wpAnyH_ready (rs := [5]) (by kernel_rfl) (by simp) ?_
    refine AllReadyH.cons (o := { dst := some 91, op := Op.call { callee := Callee.value (Operand.func 15), args := #[Operand.tmp 90], argTypes := #[33] }, type := 22, pos := "store.go:279", after := #[{ on := 4, ground := Ground.data }, { on := 3, ground := Ground.chain }, { on := 3, ground := Ground.guard }], guard := some (3, true) }) rfl (fun K hK => ?_) AllReadyH.nil
    go_simp
    go_at_call 15
    refine (CB.out w7.drew ⟨rfl, rfl, rfl, Nat.le_refl _, fun _ _ => rfl⟩).mono ?_
    clear hHeld
    rintro e w9 ⟨v9, rfl, dw9, bw9⟩
    try go_wp2_with fail
    have Xw9 : Hid (Below w7.heap.size w7 w9) := ⟨bw9.os, bw9.tape, bw9.output, bw9.size, bw9.block⟩
    have BWw9 : Hid (Below w7.heap.size w7 w9) := Xw9.out
    have SSw9 : Hid (∀ W : World, Below w9.heap.size w9 W → (Below w9.heap.size w9 W ∧ (convert 22 9 v9).run Try.prog W = .ok (.string ⟨(a.take p).toArray⟩) W ∧ (convert 22 9 (.slice ao8 p c8)).run Try.prog W = .ok (.string ⟨(a.take p).toArray⟩) W)) := fun W hW => ⟨hW, conv_bs (dw9.1.below hW (Nat.le_refl _)), (SS7.out W (Xw9.out.trans (hW.mono Xw9.out.size))).2⟩
    refine hK.out _ _ (SS7.out w9 Xw9.out) (fun _ => ?_)
    refine wpAnyH_more (S' := fun W => Below w9.heap.size w9 W ∧ (convert 22 9 v9).run Try.prog W = .ok (.string ⟨(a.take p).toArray⟩) W ∧ (convert 22 9 (.slice ao8 p c8)).run Try.prog W = .ok (.string ⟨(a.take p).toArray⟩) W) (fun W hW => SS7.out W (Xw9.out.trans (hW.1.mono Xw9.out.size))) _ _ _ _ ?_
    have hHeld := SSw9.out w9 (Below.refl _ _)
    clear hK K dw9 bw9
    try simp only [Act.put, List.setIfInBounds_toArray, List.set_cons_zero, List.set_cons_succ]
    refine' wpAnyH_take (i := 6) (oi := { dst := some 92, op := Op.convert 22 9 (Operand.tmp 91), type := 9, pos := "store.go:279", after := #[{ on := 5, ground := Ground.data }, { on := 3, ground := Ground.guard }], guard := some (3, true) }) (v := _) rfl (by kernel_rfl) (by kernel_rfl) (by kernel_rfl) (fun _ _ _ h => h) (Or.inl ⟨by rfl, ?hyB_6⟩) (by assumption) ?reB_6
    case hyB_6 => (intro W hSw; (try dsimp only at hSw); go_simp; try with_reducible rfl)
    try simp only [Act.put, List.setIfInBounds_toArray, List.set_cons_zero, List.set_cons_succ]
    refine' wpAnyH_take (i := 14) (oi := { dst := some 100, op := Op.binOp BinOp.eql 9 (Operand.tmp 92) (Operand.tmp 99) 9, type := 4, pos := "store.go:279", after := #[{ on := 6, ground := Ground.data }, { on := 13, ground := Ground.data }, { on := 3, ground := Ground.guard }], guard := some (3, true) }) (v := _) rfl (by kernel_rfl) (by kernel_rfl) (by kernel_rfl) (fun _ _ _ h => h) (Or.inl ⟨by rfl, ?hyB_14⟩) (by assumption) ?reB_14
    case hyB_14 => (intro W hSw; (try dsimp only at hSw); go_simp; try with_reducible rfl)
    try simp only [Act.put, List.setIfInBounds_toArray, List.set_cons_zero, List.set_cons_succ]
    refine' wpAnyH_take (i := 15) (oi := { dst := some 101, op := Op.pick (Operand.tmp 89) (Operand.tmp 100) (Operand.const (Value.bool false)), type := 4, pos := "store.go:279", after := #[{ on := 3, ground := Ground.data }, { on := 14, ground := Ground.data }], guard := none }) (v := _) rfl (by kernel_rfl) (by kernel_rfl) (by kernel_rfl) (fun _ _ _ h => h) (Or.inl ⟨by rfl, ?hyB_15⟩) (by assumption) ?reB_15
    case hyB_15 => (intro W hSw; (try dsimp only at hSw); go_simp; try with_reducible rfl)
    try simp only [Act.put, List.setIfInBounds_toArray, List.set_cons_zero, List.set_cons_succ]
    refine' wpAnyH_take (i := 16) (oi := { dst := some 4, op := Op.assign (Operand.tmp 101), type := 4, pos := "store.go:279", after := #[{ on := 15, ground := Ground.data }, { on := 5, ground := Ground.chain }, { on := 0, ground := Ground.phase }, { on := 1, ground := Ground.phase }, { on := 2, ground := Ground.phase }, { on := 3, ground := Ground.phase }, { on := 4, ground := Ground.phase }, { on := 5, ground := Ground.phase }, { on := 6, ground := Ground.phase }, { on := 7, ground := Ground.phase }, { on := 8, ground := Ground.phase }, { on := 9, ground := Ground.phase }, { on := 10, ground := Ground.phase }, { on := 11, ground := Ground.phase }, { on := 12, ground := Ground.phase }, { on := 13, ground := Ground.phase }, { on := 14, ground := Ground.phase }, { on := 15, ground := Ground.phase }], guard := none }) (v := _) rfl (by kernel_rfl) (by kernel_rfl) (by kernel_rfl) (fun _ _ _ h => h) (Or.inl ⟨by rfl, ?hyB_16⟩) (by assumption) ?reB_16
    case hyB_16 => (intro W hSw; (try dsimp only at hSw); go_simp; try with_reducible rfl)
    try simp only [Act.put, List.setIfInBounds_toArray, List.set_cons_zero, List.set_cons_succ]
    refine wpAnyH_done (by kernel_rfl) ?_ _
    refine NoPanic.normal ?_
    go_wp2_with fail
    go_ret
    exact ⟨rfl, BE1.out.trans ((HBE7.out.trans (BWw9.out.mono HBE7.out.size)).mono BE1.out.size)⟩
end Go.Proofs.Ytmceoelafmlpjaa
