/-
  World: kinds cloned; New.
-/
import Derived.Test.YtafmiolehlagkaaGreatWMay
import Derived.Test.YtafmiolehlagkaaGreatWDes
namespace Go.Proofs.YtafmiolehlagkaaGreat
open Go.RowKit
set_option maxRecDepth 100000
theorem infoK : (Tryz.prog.info? 119).map (fun i => (i.zero, i.size, i.bytes)) = some (some (.agg #[.string ⟨#[]⟩, .slice none 0 0]), 2, 40) := by kernel_rfl
abbrev Kc := ByteArray × Option Addr × Nat × Nat
def kcV (p : Kc) : Value := .slice p.2.1 p.2.2.1 p.2.2.2
def kz : List Kc → List Value
  | [] => []
  | p :: l => .string p.1 :: .slice p.2.1 p.2.2.1 p.2.2.2 :: kz l
theorem kz_len : ∀ l : List Kc, (kz l).length = l.length * 2
  | [] => rfl
  | p :: t => by simp [kz, kz_len t]; omega
theorem kz_at : ∀ (l : List Kc) (i : Nat) (h : i < l.length), (kz l)[i * 2]? = some (.string l[i].1) ∧ (kz l)[i * 2 + 1]? = some (kcV l[i])
  | p :: t, 0, _ => ⟨rfl, rfl⟩
  | p :: t, i + 1, h => by
    have := kz_at t i (by simpa using h)
    rw [show (i + 1) * 2 = i * 2 + 1 + 1 by omega]
    simpa [kz] using this
theorem kz_set : ∀ (l : List Kc) (i : Nat) (x : Option Addr × Nat × Nat) (_h : i < l.length), (kz l).set (i * 2 + 1) (.slice x.1 x.2.1 x.2.2) = kz (l.set i (l[i].1, x))
  | p :: t, 0, x, _ => rfl
  | p :: t, i + 1, x, h => by
    have := kz_set t i x (by simpa using h)
    rw [show (i + 1) * 2 = i * 2 + 1 + 1 by omega]
    simpa [kz] using this
theorem kz_one : ∀ l : List Kc, ∀ u ∈ kz l, u.oneCell' = true
  | [], _, h => by cases h
  | p :: t, v, h => by
    simp only [kz, List.mem_cons] at h
    rcases h with rfl | rfl | h
    · rfl
    · rfl
    · exact kz_one t v h
/-- Kinds as they lie: names, and where the fields are. -/
def Kl (w : World) (v : Value) (L : List Kc) : Prop :=
  ∃ ao c, v = .slice ao L.length c ∧ L.length ≤ c ∧ c ≤ maxLen ∧ ∀ i (hi : i < L.length), ∃ g o, ao = some ⟨g, o, none⟩ ∧ w.cell? ⟨g, o + i * 2, none⟩ = some (.string L[i].1) ∧ w.cell? ⟨g, o + i * 2 + 1, none⟩ = some (kcV L[i])
theorem Kr.kl {w : World} {v : Value} {ks : List Kind} (h : Kr w v ks) : ∃ L, Kl w v L ∧ L.length = ks.length ∧ ∀ i (h1 : i < L.length) (h2 : i < ks.length), L[i].1 = ks[i].1 ∧ Sr w (kcV L[i]) ks[i].2 := by
  obtain ⟨ao, c, rfl, h1, h2, h3⟩ := h
  have hL : ∀ n, n ≤ ks.length → ∃ L : List Kc, L.length = n ∧ ∀ i (h1 : i < L.length) (h2 : i < ks.length), (∃ g o, ao = some ⟨g, o, none⟩ ∧ w.cell? ⟨g, o + i * 2, none⟩ = some (.string L[i].1) ∧ w.cell? ⟨g, o + i * 2 + 1, none⟩ = some (kcV L[i])) ∧ L[i].1 = ks[i].1 ∧ Sr w (kcV L[i]) ks[i].2 := by
    intro n
    induction n with
    | zero => exact fun _ => ⟨[], rfl, fun i h => by simp at h⟩
    | succ n ih =>
      intro hn
      obtain ⟨L, e1, e2⟩ := ih (by omega)
      obtain ⟨g, o, vf, ea, a1, a2, a3⟩ := h3 n (by omega)
      have a4 := a3
      obtain ⟨af, cf, rfl, -⟩ := a3
      refine ⟨L ++ [(ks[n].1, af, ks[n].2.length, cf)], by simp [e1], fun i hi hi2 => ?_⟩
      by_cases hin : i < L.length
      · rw [List.getElem_append_left hin]
        exact e2 i hin hi2
      · have hie : i = L.length := by simp at hi; omega
        subst hie
        rw [List.getElem_append_right (Nat.le_refl _)]
        simp only [Nat.sub_self, List.getElem_cons_zero, e1]
        exact ⟨⟨g, o, ea, a1, a2⟩, trivial, a4⟩
  obtain ⟨L, e1, e2⟩ := hL ks.length (Nat.le_refl _)
  refine ⟨L, ⟨ao, c, by rw [e1], by omega, h2, fun i hi => (e2 i hi (by omega)).1⟩, e1, fun i hi hi2 => (e2 i hi hi2).2⟩
set_option maxHeartbeats 1000000 in
theorem clone_kl (v : Value) (l : List Kc) (w : World) (h : Kl w v l) (hn : l.length ≤ 1000000) :
    Calls Tryz.prog 144 #[v] w fun e w' => ∃ v', e = .returned v' ∧ w'.ownsRow w.heap.size 119 2 v' l.length (kz l) ∧ Below w.heap.size w w' := by
  obtain ⟨i0, hi, hz0, hz1, hz2⟩ := info_parts infoK
  have q22 : ∀ (w : World) (a : Option Addr) (n c n' c' : Nat), (binOp .eql 22 (.slice a n c) (.slice none n' c')).run Tryz.prog w = .ok (.bool a.isNone) w := fun w a n c n' c' => Lib.run_eql_slice_nil w _ _ a n c n' c' Tryz.underlying22
  obtain ⟨ao, c, rfl, h1, h2, h3⟩ := h
  cases ao with
  | none =>
    obtain rfl : l = [] := by
      cases l with
      | nil => rfl
      | cons x t =>
        obtain ⟨g, o, e, -⟩ := h3 0 (by simp)
        cases e
    clear h3
    go_enter Tryz.func144, Tryz.ntmps144
    go_wp2_with fail
    go_ret
    exact ⟨_, rfl, World.ownsRow_nil _ _ _ _, Below.refl _ _⟩
  | some ad =>
    have H : Hid (∀ j u, (kz l)[j]? = some u → (w.alloc (.cells #[] 119)).cell? (ad.add j) = some u) := fun j u hj => by
      have hj2 : j < l.length * 2 := by
        have := (List.getElem?_eq_some_iff.1 hj).1
        rwa [kz_len] at this
      obtain ⟨g', o', e3, z4, z5⟩ := h3 (j / 2) (by omega)
      obtain rfl := Option.some.inj e3
      obtain ⟨y1, y2⟩ := kz_at l (j / 2) (by omega)
      rw [add_at]
      rcases Nat.mod_two_eq_zero_or_one j with hm | hm
      · have hje : j / 2 * 2 = j := by omega
        rw [hje] at y1 z4
        rw [y1] at hj
        rw [← Option.some.inj hj]
        exact ((below_alloc w _).cell (p := ⟨g', o' + j, none⟩) (World.block_lt_of_cell? w _ z4)).trans z4
      · have hje : j / 2 * 2 + 1 = j := by omega
        rw [hje] at y2
        rw [show o' + j / 2 * 2 + 1 = o' + j by omega] at z5
        rw [y2] at hj
        rw [← Option.some.inj hj]
        exact ((below_alloc w _).cell (p := ⟨g', o' + j, none⟩) (World.block_lt_of_cell? w _ z5)).trans z5
    clear h3
    go_enter Tryz.func144, Tryz.ntmps144
    go_wp2_with (at_builtin; refine wpList_append_own_at _ rfl _ _ 22 rfl w.heap.size 119 i0 (.agg #[.string ⟨#[]⟩, .slice none 0 0]) 2 40 Tryz.underlying22 hi hz0 hz1 hz2 rfl (by decide) _ 0 [] rfl (World.ownsRow_lit w #[] 0 (Nat.le_refl _) (Nat.zero_le _) rfl) ad l.length c (kz l) rfl (by rw [kz_len]) H.out (kz_one l) (by unfold maxLen; omega) (by omega) (by simp) ?_)
    intro v' w' ho hg _ _
    obtain ⟨ao, c, rfl⟩ := own_len ho
    have HO := hide ho
    have HG := hide hg
    clear ho hg
    go_wp2_with fail
    go_ret
    refine ⟨_, rfl, ?_, (below_alloc w _).grown HG.out (by simp) (fun k e => ?_)⟩
    · have := HO.out
      simpa using this
    · simp [Value.ownBlock] at e
      omega
end Go.Proofs.YtafmiolehlagkaaGreat
