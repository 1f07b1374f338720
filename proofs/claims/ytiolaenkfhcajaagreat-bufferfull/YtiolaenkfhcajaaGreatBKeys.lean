/-
  Buffer: a map's turns, in order.
-/
import Derived.Test.YtiolaenkfhcajaaGreatBSeq
namespace Go.Proofs.YtiolaenkfhcajaaGreat
open Go.RowKit Go.Maps Go.Sort Go.Shelf
set_option maxRecDepth 100000
theorem own_raise {w : World} {B B' e s n : Nat} {v : Value} {xs : List Value} (h : w.ownsRow B e s v n xs) (hb : ∀ j, v.ownBlock = some j → B' ≤ j) : w.ownsRow B' e s v n xs := by
  refine ⟨h.1, ?_⟩
  rcases h.2 with h0 | ⟨g, c, cur, rfl, h1, h2⟩
  · exact .inl h0
  · exact .inr ⟨g, c, cur, rfl, hb g rfl, h2⟩
theorem collect_in (n : Nat) (hn : 4 ≤ n) (gf : Nat) (lb : Array Value) (eg : ∀ args w, (callFunc gf args).run Tryz.prog w = .ok (.enter gf args) w) (S Sp : List (Int × Int) → Prop) (N : Nat) (hN : N ≤ 1000000) (w : World) (hseq : SeqStopsK Fence.wide (n - 1 - 1) Tryz.prog gf lb (fun x => #[evz x]) KeepsWalks S Sp N w) :
    CallsIn Fence.wide n Tryz.prog 48 #[.func (.func gf) #[] lb] w fun e w' => ∃ (v : Value) (ss : List (Int × Int)), e = .returned v ∧ S ss ∧ w'.ownsRow w.heap.size 68 2 v ss.length (ez ss) ∧ (v = .slice none 0 0 ↔ ss = []) ∧ Below w.heap.size w w' := by
  refine callsIn_of_wp Tryz.func48 rfl trivial ?_ rfl
  simp only [Tryz.ntmps48, List.size_toArray, List.length_cons, List.length_nil, Nat.reduceAdd, Nat.reduceSub, Array.replicate_succ, Array.replicate_zero, List.push_toArray, List.append_toArray, List.nil_append, List.cons_append]
  gi_wp2_with fail
  refine ⟨trivial, (fun h => by cases h), (appseq_in (n - 1) (by omega) gf lb eg S Sp N hN _ hseq).mono ?_⟩
  rintro e w' ⟨v, ss, rfl, hS, hrow, hnil, hb⟩
  gi_wp2_with fail
  go_ret
  exact ⟨v, ss, rfl, hS, hrow, hnil, hb⟩
theorem keys_any (gm : Nat) (w : World) : Calls Tryz.prog 32 #[.map (some gm)] w fun e w' => e = .returned (.func (.func 50) #[] #[.pointer (some ⟨w.heap.size, 0, none⟩)]) ∧ w' = w.alloc (.cells #[.map (some gm)] 52) := by
  go_enter Tryz.func32, Tryz.ntmps32
  go_wp2_with fail
  go_ret
  exact ⟨rfl, rfl⟩
theorem lt_of_not {x y : Int × Int} (h : ¬ ltT y x) (hne : x ≠ y) : ltT x y := by
  unfold ltT at *
  have : ¬ (x.1 = y.1 ∧ x.2 = y.2) := fun e => hne (Prod.ext e.1 e.2)
  omega
set_option maxHeartbeats 4000000 in
/-- slices.SortedFunc(maps.Keys(m), compareTurns). -/
theorem sorted_any {w : World} {Bm gm n : Nat} {f : Int × Int → Option Value} (hB : Bm < w.heap.size) (hm : w.cell? ⟨Bm, 0, none⟩ = some (.map (some gm))) (hM : Mt w gm n f) (hn : n ≤ 1000000) :
    Calls Tryz.prog 31 #[.func (.func 50) #[] #[.pointer (some ⟨Bm, 0, none⟩)], .func (.func 19) #[] #[]] w fun e w' => ∃ (v : Value) (ss : List (Int × Int)), e = .returned v ∧ (∀ x, x ∈ ss ↔ InB x ∧ (f x).isSome = true) ∧ ss.Pairwise ltT ∧ ss.length ≤ n ∧ w'.ownsRow w.heap.size 68 2 v ss.length (ez ss) ∧ Below w.heap.size w w' := by
  obtain ⟨D, hD, h2, hz⟩ := hM
  have hsz := hD.size_le
  have JC : Hid (Calls Tryz.prog 48 #[.func (.func 50) #[] #[.pointer (some ⟨Bm, 0, none⟩)]] w fun e w' => ∃ (v : Value) (ss : List (Int × Int)), e = .returned v ∧ (ss.Nodup ∧ (∀ x, x ∈ ss ↔ InB x ∧ (f x).isSome = true) ∧ ss.length ≤ n) ∧ w'.ownsRow w.heap.size 68 2 v ss.length (ez ss) ∧ Below w.heap.size w w') := by
    refine (callsIn_wide (n := 6)).1 ?_
    refine (collect_in 6 (by omega) _ _ (enters_of Tryz.func50 (by kernel_rfl) rfl) _ _ _ (by omega) w (keys_stops 4 (by omega) Bm gm n D w hB hm hD hz)).mono ?_
    rintro e w' ⟨v, ss, e1, hS, k1, -, k2⟩
    obtain ⟨hS, hSl⟩ := hS
    refine ⟨v, ss, e1, ⟨hS.1, fun x => (hS.2 x).trans ⟨fun ⟨kl, a, b, c, _⟩ => ⟨a, by rw [← (h2 x a kl b).1]; exact c⟩, fun ⟨a, b⟩ => ?_⟩, by omega⟩, k1, k2⟩
    obtain ⟨kl, hkl⟩ := key_ofT x a
    exact ⟨kl, a, hkl, by rw [(h2 x a kl hkl).1]; exact b, rfl⟩
  have JS : Hid (∀ (W : World) (v : Value) (l : List (Int × Int)), W.ownsRow 0 68 2 v l.length (ez l) → l.length ≤ 1000000 → Calls Tryz.prog 49 #[v, .func (.func 19) #[] #[]] W fun e w' => e = .returned (.tuple #[]) ∧ ∃ l', l'.Perm l ∧ l'.Pairwise (fun x y => ¬ ltT y x) ∧ w'.ownsRow 0 68 2 v l.length (ez l') ∧ W.grownBy w' v.ownBlock) := fun W v l h1 h2 => rsort_any h1 h2
  clear hD h2 hz hB hm hsz
  go_enter Tryz.func31, Tryz.ntmps31
  go_wp2_with fail
  refine JC.out.mono ?_
  rintro e w1 ⟨v, ss, rfl, hS, k1, b1⟩
  obtain ⟨a, c, rfl⟩ := own_len k1
  have H1 := hide (And.intro hS (And.intro k1 b1))
  have J2 := hide (JS.out w1 _ ss (own_lower k1 (Nat.zero_le _)) (by have := hS.2.2; omega))
  clear hS k1 b1 JC JS
  go_wp2_with fail
  refine J2.out.mono ?_
  rintro e w2 ⟨rfl, l', hp, hs, k2, hg⟩
  have H2 := hide (And.intro hp (And.intro hs (And.intro k2 hg)))
  clear hp hs k2 hg J2
  go_wp2_with fail
  go_ret
  obtain ⟨⟨hnd, hmem, hlen⟩, k1, b1⟩ := H1.out
  obtain ⟨hp, hs, k2, hg⟩ := H2.out
  have hll := hp.length_eq
  refine ⟨_, l', rfl, fun x => hp.mem_iff.trans (hmem x), ?_, by rw [hll]; exact hlen, by rw [hll]; exact own_raise k2 (fun j e => (k1.lt j e).1), b1.grown hg b1.size (fun k e => (k1.lt k e).1)⟩
  have hnd' := hp.nodup_iff.2 hnd
  exact (hs.and hnd').imp (fun ⟨h1, h2⟩ => lt_of_not h1 h2)
end Go.Proofs.YtiolaenkfhcajaaGreat
