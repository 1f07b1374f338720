import Derived.Test.YtfbhoemfabgjpaaGreatMgAR
import Derived.Test.YtfbhoemfabgjpaaGreatMgAE
import Derived.Test.YtfbhoemfabgjpaaGreatMgAH
import Derived.Test.YtfbhoemfabgjpaaGreatProg
import Derived.WalkKit
import Derived.WalkSpells
import Derived.WalkLawsBesides
import Derived.Below
import Derived.RowKit
import Derived.Lib.VarintMem
import Derived.Laws.CopyOwn
/-
  Clone.
-/
namespace Go.Proofs.YtfbhoemfabgjpaaGreat
open Go.RowKit
set_option maxRecDepth 100000
set_option maxHeartbeats 1000000 in
theorem i_clone_ents (v : Value) (l : List (Nat × Nat)) (w : World) (h : w.ownsRow 0 34 2 v l.length (ec l)) (hn : l.length ≤ 1000000) :
    Calls Tryz.prog 43 #[v] w fun e w' => ∃ v', e = .returned v' ∧ w'.ownsRow w.heap.size 34 2 v' l.length (ec l) ∧ Below w.heap.size w w' := by
  obtain ⟨i0, hi, hz0, hz1, hz2⟩ := info_parts info41
  have q47 : ∀ (w : World) (a : Option Addr) (n c n' c' : Nat), (binOp .eql 41 (.slice a n c) (.slice none n' c')).run Tryz.prog w = .ok (.bool a.isNone) w := fun w a n c n' c' => Lib.run_eql_slice_nil w _ _ a n c n' c' Tryz.underlying41
  rcases h.2 with ⟨rfl, hl⟩ | ⟨g, cap, cur, rfl, -, hg, h1, h2, hcs, htake⟩
  · obtain rfl : l = [] := List.eq_nil_of_length_eq_zero (by omega)
    clear h hl
    go_enter Tryz.func43, Tryz.ntmps43
    go_wp2_with fail
    go_ret
    exact ⟨_, rfl, World.ownsRow_nil _ _ _ _, Below.refl _ _⟩
  · have H := hide h
    clear h hg hcs htake
    go_enter Tryz.func43, Tryz.ntmps43
    go_wp2_with (at_builtin; refine wpList_append_own_at _ rfl _ _ 41 rfl w.heap.size 34 i0 (.agg #[.int .i64 0, .int .i64 0]) 2 16 Tryz.underlying41 hi hz0 hz1 hz2 rfl (by decide) _ 0 [] rfl (World.ownsRow_lit w #[] 0 (Nat.le_refl _) (Nat.zero_le _) rfl) ⟨g, 0, none⟩ l.length cap (ec l) rfl (by rw [ec_len]) ?c1 (ec_one l) (by unfold maxLen; omega) (by omega) (by simp) ?_)
    case c1 => exact (H.out.alloc _).cells rfl
    intro v' w' ho hg _ _
    obtain ⟨ao, c, rfl⟩ := own_len ho
    have HO := hide ho
    have HG := hide hg
    clear ho hg
    go_wp2_with fail
    go_ret
    refine ⟨_, rfl, ?_, (below_alloc w _).grown HG.out (by simp) (fun k e => ?_)⟩
    · have := HO.out
      simpa using this
    · simp [Value.ownBlock] at e
      omega
set_option maxHeartbeats 4000000 in
set_option maxRecDepth 100000 in
theorem cloned_pm (g n : Nat) (vg vl vf : Value) (gs fr : List Nat) (lv : List (Nat × Nat)) (w : World) (h : Pm w g n vg vl vf gs fr lv) (hg : gs.length ≤ 1000000) (hl : lv.length ≤ 1000000) (hf : fr.length ≤ 1000000) :
    Calls Tryz.prog 22 #[.pointer (some ⟨g, 0, none⟩)] w fun e w' => ∃ g' v1 v2 v3, e = .returned (.pointer (some ⟨g', 0, none⟩)) ∧ Pm w' g' n v1 v2 v3 gs fr lv ∧ (∀ k, k = g' ∨ v1.ownBlock = some k ∨ v2.ownBlock = some k ∨ v3.ownBlock = some k → w.heap.size ≤ k) ∧ Below w.heap.size w w' := by
  obtain ⟨c0, c1, c2, c3⟩ := h.cell
  have J1 : Hid (∀ W, Below w.heap.size w W → Calls Tryz.prog 44 #[vg] W fun e w' => ∃ v', e = .returned v' ∧ Hid (w'.ownsRow w.heap.size 3 1 v' gs.length (ic gs) ∧ Below w.heap.size w w') ∧ w'.cell? ⟨g, 0, none⟩ = some (.int .i64 (n : Int)) ∧ w'.cell? ⟨g, 1, none⟩ = some vg ∧ w'.cell? ⟨g, 2, none⟩ = some vl ∧ w'.cell? ⟨g, 3, none⟩ = some vf) := fun W hW =>
    (i_clone_any vg gs.length gs W (own_later h.2.1 hW) hg).mono (by
      rintro e w' ⟨v', rfl, ho, hb⟩
      have hx := below_on hW hb
      exact ⟨v', rfl, ⟨own_lower ho hW.size, hx⟩, (h.later hx).cell⟩)
  have J2 : Hid (∀ W v1, W.ownsRow w.heap.size 3 1 v1 gs.length (ic gs) → Below w.heap.size w W → Calls Tryz.prog 43 #[vl] W fun e w' => ∃ v', e = .returned v' ∧ Hid (w'.ownsRow w.heap.size 3 1 v1 gs.length (ic gs) ∧ w'.ownsRow w.heap.size 34 2 v' lv.length (ec lv) ∧ Ap v1 v' ∧ Below w.heap.size w w') ∧ w'.cell? ⟨g, 0, none⟩ = some (.int .i64 (n : Int)) ∧ w'.cell? ⟨g, 1, none⟩ = some vg ∧ w'.cell? ⟨g, 2, none⟩ = some vl ∧ w'.cell? ⟨g, 3, none⟩ = some vf) := fun W v1 h1 hW =>
    (i_clone_ents vl lv W (own_later h.2.2.1 hW) hl).mono (by
      rintro e w' ⟨v', rfl, ho, hb⟩
      have hx := below_on hW hb
      refine ⟨v', rfl, ⟨own_later h1 hb, own_lower ho hW.size, fun k e1 e2 => ?_, hx⟩, (h.later hx).cell⟩
      have := (h1.lt k e1).2
      have := (ho.lt k e2).1
      omega)
  have J3 : Hid (∀ W v1 v2, W.ownsRow w.heap.size 3 1 v1 gs.length (ic gs) → W.ownsRow w.heap.size 34 2 v2 lv.length (ec lv) → Ap v1 v2 → Below w.heap.size w W → Calls Tryz.prog 44 #[vf] W fun e w' => ∃ v', e = .returned v' ∧ Hid (w'.ownsRow w.heap.size 3 1 v1 gs.length (ic gs) ∧ w'.ownsRow w.heap.size 34 2 v2 lv.length (ec lv) ∧ w'.ownsRow w.heap.size 3 1 v' fr.length (ic fr) ∧ Ap v1 v2 ∧ Ap v1 v' ∧ Ap v2 v' ∧ Below w.heap.size w w') ∧ w'.cell? ⟨g, 0, none⟩ = some (.int .i64 (n : Int)) ∧ w'.cell? ⟨g, 1, none⟩ = some vg ∧ w'.cell? ⟨g, 2, none⟩ = some vl ∧ w'.cell? ⟨g, 3, none⟩ = some vf) := fun W v1 v2 h1 h2 h12 hW =>
    (i_clone_any vf fr.length fr W (own_later h.2.2.2.1 hW) hf).mono (by
      rintro e w' ⟨v', rfl, ho, hb⟩
      have hx := below_on hW hb
      refine ⟨v', rfl, ⟨own_later h1 hb, own_later h2 hb, own_lower ho hW.size, h12, fun k e1 e2 => ?_, fun k e1 e2 => ?_, hx⟩, (h.later hx).cell⟩
      · have := (h1.lt k e1).2
        have := (ho.lt k e2).1
        omega
      · have := (h2.lt k e1).2
        have := (ho.lt k e2).1
        omega)
  clear h
  go_enter Tryz.func22, Tryz.ntmps22
  go_wp2_with fail
  go_region_held3 (fun W => W.cell? ⟨g, 0, none⟩ = some (.int .i64 (n : Int)) ∧ W.cell? ⟨g, 1, none⟩ = some vg ∧ W.cell? ⟨g, 2, none⟩ = some vl ∧ W.cell? ⟨g, 3, none⟩ = some vf) (go_keep) (first | (go_at_call 43; refine (J2.out _ _ HH.out.1 HH.out.2).mono ?_; rintro e w2 ⟨v2, rfl, HH2, x0, x1, x2, x3⟩; obtain ⟨a2, k2, rfl⟩ := own_len HH2.out.2.1) | (go_at_call 44; refine (J3.out _ _ _ HH2.out.1 HH2.out.2.1 HH2.out.2.2.1 HH2.out.2.2.2).mono ?_; rintro e w3 ⟨v3, rfl, HH3, y0, y1, y2, y3⟩; obtain ⟨a3, k3, rfl⟩ := own_len HH3.out.2.2.1) | (go_at_call 44; refine (J1.out _ (below_drew w)).mono ?_; rintro e w1 ⟨v1, rfl, HH, d0, d1, d2, d3⟩; obtain ⟨a1, k1, rfl⟩ := own_len HH.out.1))
  all_goals
    go_wp2_with fail
    go_ret
    obtain ⟨r1, r2, r3, r4, r5, r6, r7⟩ := HH3.out
    have hba := below_alloc w3 (.cells #[.int .i64 (n : Int), .slice a1 gs.length k1, .slice a2 lv.length k2, .slice a3 fr.length k3] 91)
    have hs := r7.size
    have hn : ∀ (v : Value), (∀ k, v.ownBlock = some k → k < w3.heap.size) → v.ownBlock ≠ some w3.heap.size := fun v hv e => by have := hv _ e; omega
    refine ⟨w3.heap.size, _, _, _, rfl, ⟨heap_alloc_new w3 _, own_lower (own_later r1 hba) (Nat.zero_le _), own_lower (own_later r2 hba) (Nat.zero_le _), own_lower (own_later r3 hba) (Nat.zero_le _), ⟨hn _ (fun k e => (r1.lt k e).2), hn _ (fun k e => (r2.lt k e).2), hn _ (fun k e => (r3.lt k e).2)⟩, r4, r5, r6⟩, fun k e => ?_, below_on r7 hba⟩
    rcases e with rfl | e | e | e
    · exact hs
    · exact (r1.lt k e).1
    · exact (r2.lt k e).1
    · exact (r3.lt k e).1
theorem i_cloned_any {w : World} {S : Nat → Prop} {g n : Nat} {gs fr : List Nat} (h : Pl w S g n gs fr) :
    Calls Tryz.prog 22 #[.pointer (some ⟨g, 0, none⟩)] w fun e w' => ∃ g', e = .returned (.pointer (some ⟨g', 0, none⟩)) ∧ Pl w' (fun k => w.heap.size ≤ k) g' n gs fr ∧ Below w.heap.size w w' := by
  obtain ⟨⟨vg, vl, vf, hp, _⟩, ho⟩ := h
  have h1 := ho.2.2.1
  have h2 := ho.2.1
  have h3 := ho.free_len
  refine (cloned_pm g n vg vl vf gs fr _ w hp (by omega) (by rw [lvOf_len]; omega) (by omega)).mono ?_
  rintro e w' ⟨g', v1, v2, v3, rfl, q1, q2, q3⟩
  exact ⟨g', rfl, ⟨⟨v1, v2, v3, q1, q2 _ (.inl rfl), fun k e => q2 k (.inr (.inl e)), fun k e => q2 k (.inr (.inr (.inl e))), fun k e => q2 k (.inr (.inr (.inr e)))⟩, ho⟩, q3⟩
end Go.Proofs.YtfbhoemfabgjpaaGreat

/-
  World: Clone: a world beside another one, of the same kinds.
-/
namespace Go.Proofs.YtfbhoemfabgjpaaGreat
open Go.RowKit
set_option maxRecDepth 100000
/-- The tables of the sets S are cloned: o says whose each new block is, p where each clone lies. -/
def Cz (w : World) (gt M : Nat) (q : Nat → Option Nat) (T : Nat → Ts) (W : World) (S : List Nat) (cnt : Nat) (o : Nat → Nat) (p : Nat → Option Nat) : Prop :=
  Rq W gt (w.heap.size + 1) M q S cnt ∧ Mq W w.heap.size S.length p ∧ (∀ s, (p s).isSome = true ↔ s ∈ S) ∧ (∀ s g, p s = some g → TbS W (fun k => k < W.heap.size ∧ w.heap.size + 1 < k ∧ o k = 10 + s) g (T s) M) ∧ Below w.heap.size w W
section
variable {w w' : World} {own : Nat → Nat} {gw gp gm gt M M' : Nat} {vk : Value} {ks : List Kind} {gs fr gs' fr' : List Nat} {f f' : Int × Int → Option Nat} {q q' : Nat → Option Nat} {T T' : Nat → Ts} {S : List Nat} {cnt : Nat} {W : World} {o : Nat → Nat} {p : Nat → Option Nat}
theorem Cz.short (h : Cz w gt M q T W S cnt o p) (hw : Wi ks f q T) : S.length ≤ 8192 := by
  obtain ⟨⟨D, left, -, a2, a3, -⟩, -⟩ := h
  refine nodup_len 8192 S a2 (fun s hs => ?_)
  obtain ⟨g, hg⟩ := Option.isSome_iff_exists.1 (a3 s hs).2
  exact (hw.2 s g hg).1.1
theorem Cz.fin (h : Cz w gt M q T W S 0 o p) (hw : Wi ks f q T) : ∀ s, (p s).isSome = (q s).isSome := by
  obtain ⟨h1, h2, h3, -⟩ := h
  intro s
  cases hq : q s with
  | none =>
    have : s ∉ S := fun hs => by
      obtain ⟨D, left, -, -, a3, -⟩ := h1
      have := (a3 s hs).2
      rw [hq] at this
      cases this
    have h4 : ¬ (p s).isSome = true := fun e => this ((h3 s).1 e)
    simpa using h4
  | some g =>
    have := (hw.2 s g hq).1.1
    have h4 := (h3 s).2 (h1.done rfl s (by omega) (by rw [hq]; rfl))
    rw [h4]
    rfl
/-- One table more. -/
theorem Cz.step {w1 w5 w9 : World} {s g' cnt1 : Nat} (h : Cz w gt M q T W S cnt o p) (hgt : gt < w.heap.size) (hs : s ∉ S) (n5 : Rq w1 gt (w.heap.size + 1) M q (S ++ [s]) cnt1) (n7 : W.grownBy w1 (some (w.heap.size + 1))) (hsz : w1.heap.size = W.heap.size) (hb5 : Below w1.heap.size w1 w5) (ht : TbS w5 (fun k => w1.heap.size ≤ k) g' (T s) M) (hm9 : Mq w9 w.heap.size (S.length + 1) (fun x => if x = s then some g' else p x)) (ht9 : w5.mapTurned w9 w.heap.size) (hW : w.heap.size + 2 ≤ W.heap.size) :
    Cz w gt M q T w9 (S ++ [s]) cnt1 (fun k => if k < w1.heap.size then o k else 10 + s) (fun x => if x = s then some g' else p x) := by
  obtain ⟨h1, h2, h3, h4, h5⟩ := h
  have hm19 : Mv w1 w9 (fun k => k = w.heap.size) := (Mv.of_below hb5 (fun k => k = w.heap.size)).trans (mv_turned ht9) (fun k _ e => e)
  have hm7 : Mv W w1 (fun k => k = w.heap.size + 1) := ⟨n7.1, n7.2, n7.3, n7.size, fun k hk e => n7.block k hk (fun e' => e (by simpa using e'))⟩
  have hmW : Mv W w9 (fun k => k = w.heap.size ∨ k = w.heap.size + 1) := (hm7.mono (fun _ _ e => .inr e)).trans hm19 (fun k _ e => .inl e)
  refine ⟨(n5.kept (grown_later hb5) (by simp) (by simp)).kept ht9.grown (by simp; omega) (by simp), by rw [List.length_append]; exact hm9, fun x => ?_, fun x gx hx => ?_, h5.trans (hmW.below (by omega) (fun k e => by omega))⟩
  · by_cases c : x = s
    · subst c
      simp
    · simp only [if_neg c]
      rw [h3 x]
      simp [c]
  · dsimp only at hx
    by_cases c : x = s
    · subst c
      rw [if_pos rfl] at hx
      obtain rfl := Option.some.inj hx
      refine ((ht.tight.frame (mv_turned ht9) (fun k e e' => by have := e.1; omega))).mono (fun k e => ⟨Nat.lt_of_lt_of_le e.2 ht9.grown.size, by have := e.1; omega, if_neg (by have := e.1; omega)⟩)
    · rw [if_neg c] at hx
      refine ((h4 x gx hx).frame hmW (fun k e e' => by have := e.2.1; omega)).mono (fun k e => ⟨Nat.lt_of_lt_of_le e.1 hmW.size, e.2.1, ?_⟩)
      dsimp only
      rw [if_pos (by have := e.1; omega)]
      exact e.2.2
/-- The clone, whole. -/
def cloneOwn (own o : Nat → Nat) (a b c d e : Nat) : Nat → Nat := fun k => if k < a then (if own k = 2 then 2 else 0) else if k = a then 5 else if k < b then o k else if k < c then 3 else if k = d then 4 else if k = e then 1 else 0
theorem clone_fin {wr w6 w7 : World} {g1 g2 : Nat} (h : Wx 0 w own gw vk gp gm gt M ks gs fr f q T) (hc : Cz w gt M q T wr S 0 o p) (hw : Wi ks f q T) (p1 : Pl w6 (fun k => wr.drew.heap.size ≤ k) g1 200 gs fr) (b6 : Below wr.drew.heap.size wr.drew w6) (hg2 : w6.heap.size = g2) (p2 : Mp w7 g2 M f) (b7 : Below w6.heap.size w6 w7) :
    Wx 0 (w7.alloc (.cells #[vk, .pointer (some ⟨g1, 0, none⟩), .map (some g2), .map (some w.heap.size)] 64)) (cloneOwn own o w.heap.size wr.heap.size w6.heap.size g2 w7.heap.size) w7.heap.size vk g1 g2 w.heap.size (M + 8192) ks gs fr f p T := by
  have hl := hc.short hw
  obtain ⟨c1, c2, c3, c4, c5⟩ := hc
  have q1 := c5.size
  have q2 : wr.heap.size ≤ w6.heap.size := b6.size
  have q3 := b7.size
  have q4 := p2.lt
  have q5 : w.heap.size < wr.heap.size := c2.lt
  have b8 := below_alloc w7 (.cells #[vk, .pointer (some ⟨g1, 0, none⟩), .map (some g2), .map (some w.heap.size)] 64)
  have hb : Below wr.heap.size wr (w7.alloc (.cells #[vk, .pointer (some ⟨g1, 0, none⟩), .map (some g2), .map (some w.heap.size)] 64)) := below_on (below_on (below_on (below_drew wr) b6) b7) b8
  have hsz : (w7.alloc (.cells #[vk, .pointer (some ⟨g1, 0, none⟩), .map (some g2), .map (some w.heap.size)] 64)).heap.size = w7.heap.size + 1 := by simp
  refine ⟨⟨?_, ?_, ?_⟩, ⟨by omega, by omega⟩, heap_alloc_new _ _, ?_, fun _ => ?_, fun _ => ?_, fun _ => ?_, fun s g hg _ => ?_⟩
  · unfold cloneOwn
    rw [if_neg (by omega), if_neg (by omega), if_neg (by omega), if_neg (by omega), if_neg (by omega), if_pos rfl]
  · unfold cloneOwn
    rw [if_neg (by omega), if_neg (by omega), if_neg (by omega), if_neg (by omega), if_pos rfl]
  · unfold cloneOwn
    rw [if_neg (by omega), if_pos rfl]
  · refine h.2.2.2.1.next (fun k hk => (below_on c5 hb).block k hk.1) (fun k hk => ⟨by have := hk.1; omega, ?_⟩)
    unfold cloneOwn
    rw [if_pos hk.1, if_pos hk.2]
  · refine ((p1.tight.later (below_on b7 b8))).mono (fun k e => ⟨by have := e.2; omega, ?_⟩)
    have e1 : wr.heap.size ≤ k := e.1
    unfold cloneOwn
    rw [if_neg (by omega), if_neg (by omega), if_neg (by omega), if_pos e.2]
  · exact (p2.same (b8.block _ q4)).mono (by omega)
  · exact (c2.same (hb.block _ q5)).mono (by omega)
  · refine (((c4 s g hg).frame (Mv.of_below hb (fun _ => False)) (fun _ _ e => e)).up (by omega)).mono (fun k e => ⟨by have := e.1; omega, ?_⟩)
    unfold cloneOwn
    rw [if_neg (by have := e.2.1; omega), if_neg (by have := e.2.1; omega), if_pos e.1]
    exact e.2.2
set_option maxHeartbeats 4000000 in
theorem wclone_any (h : Wx 0 w own gw vk gp gm gt M ks gs fr f q T) (hw : Wi ks f q T) : Calls Tryz.prog 10 #[.pointer (some ⟨gw, 0, none⟩)] w fun e w' => ∃ (g' gp' gm' gt' : Nat) (own' : Nat → Nat) (q' : Nat → Option Nat), e = .returned (.pointer (some ⟨g', 0, none⟩)) ∧ Wx 0 w' own' g' vk gp' gm' gt' (M + 8192) ks gs fr f q' T ∧ (∀ s, (q' s).isSome = (q s).isSome) ∧ (∀ k, k < w.heap.size → own' k = if own k = 2 then 2 else 0) ∧ Below w.heap.size w w' := by
  have hgt := h.2.1.2
  have h1 := h.later (below_alloc w (.map #[] 0))
  obtain ⟨D, hD, hcl, hkl⟩ := h1.mq
  obtain ⟨-, -, -, c3⟩ := h1.cells
  have M0 := hide (Mq.made w)
  have H := hide h
  have HW := hide hw
  have HCL := hide hcl
  have HKL := hide hkl
  clear h hw hcl hkl h1
  have hmm := @run_makeMap Tryz.prog
  go_enter Tryz.func10, Tryz.ntmps10
  go_wp2_with (at_range; refine wpList_range_own _ rfl _ 62 rfl 3 75 keyed3 Tryz.underlying62 _ gt M D rfl hD ?_; intro w0 hrg0 hg0 hs0)
  have hs1 : (w.alloc (.map #[] 0)).heap.size = w.heap.size + 1 := by simp
  have HM0 : Hid (Mq w0 w.heap.size 0 (fun _ => none)) := by
    obtain ⟨D', x1, x2⟩ := M0.out
    exact ⟨D', x1.kept hg0 (by simp), x2⟩
  have HSZ : Hid (w.heap.size + 2 ≤ w0.heap.size) := by
    have := hs0
    rw [hs1] at this
    show _ ≤ _
    omega
  have H0 : Hid (∃ S cnt o p, Cz w gt M q T w0 S cnt o p ∧ w.heap.size + 2 ≤ w0.heap.size) := ⟨[], _, fun _ => 0, fun _ => none, ⟨Rq.start HCL.out HKL.out (hs1 ▸ hrg0), by simpa using HM0.out, (fun s => by simp), (fun s g e => by cases e), (below_alloc w _).grown hg0 (by rw [hs1]; omega) (fun k e => by cases e)⟩, HSZ.out⟩
  clear hrg0 hg0 HCL HKL hD c3 M0 HM0 HSZ
  go_frame
  rw [hs1]
  clear hs1 hs0
  go_loopw [4] (fun _ W => Hid (∃ S cnt o p, Cz w gt M q T W S cnt o p ∧ w.heap.size + 2 ≤ W.heap.size)) (fun _ W => W.rangeLeft gt (w.heap.size + 1))
  case atStart => exact H0
  case round =>
    have hrel' := hrel
    obtain ⟨S, cnt, o, p, hS, hsz2⟩ := hrel'
    have hle := hS.short HW.out
    rcases hS.1.next 0 with ⟨n1, n2⟩ | ⟨s, g, w1, cnt1, n1, n2, n3, n4, n5, n6, n7, n8, n9⟩
    · subst n1
      have HF := hide hS
      have HZ := hide hsz2
      clear hS hrel hsz2
      obtain ⟨ak, ck, hvk, -⟩ := H.out.2.2.2.1.kr
      subst hvk
      have hc := (H.out.later HF.out.2.2.2.2).cells
      obtain ⟨c0, c1, c2, -⟩ := hc
      have HCC : Hid (∀ W, Below wr.heap.size wr W → W.cell? ⟨gw, 0, none⟩ = some (.slice ak ks.length ck) ∧ W.cell? ⟨gw, 1, none⟩ = some (.pointer (some ⟨gp, 0, none⟩)) ∧ W.cell? ⟨gw, 2, none⟩ = some (.map (some gm))) := fun W hb =>
        ⟨(hb.cell (World.block_lt_of_cell? _ _ c0)).trans c0, (hb.cell (World.block_lt_of_cell? _ _ c1)).trans c1, (hb.cell (World.block_lt_of_cell? _ _ c2)).trans c2⟩
      have JP := hide (i_cloned_any ((H.out.later HF.out.2.2.2.2).pl.later (below_drew wr)))
      have JM : Hid (∀ W, Below wr.heap.size wr W → Calls Tryz.prog 23 #[.map (some gm)] W fun e w' => ∃ g', e = .returned (.map (some g')) ∧ W.heap.size = g' ∧ Mp w' g' M f ∧ Below W.heap.size W w') := fun W hb => clone_map gm M f W ((H.out.later (below_on HF.out.2.2.2.2 hb)).mp)
      go_upto_region 6 with fail
      go_region_held3 (fun W => W.cell? ⟨gw, 0, none⟩ = some (.slice ak ks.length ck) ∧ W.cell? ⟨gw, 1, none⟩ = some (.pointer (some ⟨gp, 0, none⟩)) ∧ W.cell? ⟨gw, 2, none⟩ = some (.map (some gm))) (go_keep) (first | (go_at_call 22; refine JP.out.mono ?_; rintro e w6 ⟨g1, rfl, p1, b6⟩; have hb6 := below_on (below_drew wr) b6; obtain ⟨y0, y1, y2⟩ := HCC.out _ hb6) | (go_at_call 23; refine (JM.out _ hb6).mono ?_; rintro e w7 ⟨g2, rfl, hg2, p2, b7⟩; obtain ⟨z0, z1, z2⟩ := HCC.out _ (below_on hb6 b7)))
      have HFIN := hide (And.intro p1 (And.intro b6 (And.intro hg2 (And.intro p2 b7))))
      clear p1 b6 hb6 hg2 p2 b7 y0 y1 y2 z0 z1 z2
      go_wp2_with fail
      go_ret
      have hfin := clone_fin H.out HF.out HW.out HFIN.out.1 HFIN.out.2.1 HFIN.out.2.2.1 HFIN.out.2.2.2.1 HFIN.out.2.2.2.2
      exact ⟨_, _, _, _, _, _, rfl, hfin, HF.out.fin HW.out, fun k hk => if_pos hk, below_on (below_on (below_on HF.out.2.2.2.2 (below_on (below_drew wr) HFIN.out.2.1)) HFIN.out.2.2.2.2) (below_alloc _ _)⟩
    · have hm7 : Mv wr w1 (fun k => k = w.heap.size + 1) := ⟨n7.1, n7.2, n7.3, n7.size, fun k hk e => n7.block k hk (fun e' => e (by simpa using e'))⟩
      have B1 : Hid (Below w.heap.size w w1) := hS.2.2.2.2.grown n7 hS.2.2.2.2.size (fun k e => by cases e; omega)
      obtain ⟨m, hm, htb⟩ := (H.out.later B1.out).tb n2
      have JL := hide (cloned_any htb)
      have HQ1 : Hid (Mq w1 w.heap.size S.length p) := hS.2.1.same (n7.block _ (by omega) (by simp))
      have HS := hide (And.intro hS (And.intro hsz2 (And.intro n3 (And.intro n5 (And.intro n7 (And.intro n8 n6))))))
      have HL := hide hle
      clear hS hrel n2 n3 n5 n6 n7 n8 htb B1 hm7 hle hsz2
      go_wp2_with fail
      refine JL.out.mono ?_
      rintro e w5 ⟨g', rfl, t1, b5⟩
      have hq5 : Mq w5 w.heap.size S.length p := HQ1.out.same (b5.block _ HQ1.out.lt)
      obtain ⟨w9, hr9, hm9, ht9⟩ := hq5.store s g' n1 (by have := HL.out; omega)
      have HC9 : Hid (Cz w gt M q T w9 (S ++ [s]) cnt1 (fun k => if k < w1.heap.size then o k else 10 + s) (fun x => if x = s then some g' else p x)) := HS.out.1.step hgt HS.out.2.2.1 HS.out.2.2.2.1 HS.out.2.2.2.2.1 HS.out.2.2.2.2.2.1 b5 ⟨m, hm, t1⟩ hm9 ht9 HS.out.2.1
      have HZ9 : Hid (w.heap.size + 2 ≤ w9.heap.size) := by
        have q1 := HS.out.2.1
        have q2 := HS.out.2.2.2.2.2.1
        have q3 := b5.size
        have q4 := ht9.grown.size
        show _ ≤ _
        omega
      have HLT : Hid (w9.rangeLeft gt (w.heap.size + 1) < wr.rangeLeft gt (w.heap.size + 1)) := by
        rw [HC9.out.1.left_eq, HS.out.1.1.left_eq]
        exact HS.out.2.2.2.2.2.2
      clear t1 b5 hq5 hm9 ht9
      go_wp2_with fail
      go_roundw
      case rel => exact ⟨_, _, _, _, HC9.out, HZ9.out⟩
      case measure => exact HLT.out
end
end Go.Proofs.YtfbhoemfabgjpaaGreat

namespace Go.Proofs.YtfbhoemfabgjpaaGreat.Pak
open Go.RowKit
set_option maxRecDepth 100000

theorem hide {p : Prop} (h : p) : Hid p := h
theorem ret_int {k : IntKind} {a b : Int} (h : a = b) : Ending.returned (.int k a) = .returned (.int k b) := by rw [h]
theorem val_int {k : IntKind} {a b : Int} (h : a = b) : Value.int k a = .int k b := by rw [h]

/-- A slice of bytes that reads as l (nil, or empty, or a row of cells). -/
def Bs (w : World) (v : Value) (l : List UInt8) : Prop :=
  ∃ ao c, v = .slice ao l.length c ∧ l.length ≤ c ∧ c ≤ maxLen ∧ ∀ j (hj : j < l.length), ∃ g o, ao = some ⟨g, o, none⟩ ∧ w.cell? ⟨g, o + j, none⟩ = some (.int .u8 (l[j]).toNat)

theorem Bs.nil (w : World) : Bs w (.slice none 0 0) [] := ⟨none, 0, rfl, Nat.le_refl _, Nat.zero_le _, fun j hj => absurd hj (by simp)⟩
theorem Bs.row {w : World} {g o c : Nat} {l : List UInt8} (h1 : l.length ≤ c) (h2 : c ≤ maxLen) (h3 : ∀ j (hj : j < l.length), w.cell? ⟨g, o + j, none⟩ = some (.int .u8 (l[j]).toNat)) : Bs w (.slice (some ⟨g, o, none⟩) l.length c) l :=
  ⟨some ⟨g, o, none⟩, c, rfl, h1, h2, fun j hj => ⟨g, o, rfl, h3 j hj⟩⟩
theorem Bs.parts {w : World} {v : Value} {l : List UInt8} (h : Bs w v l) :
    (∃ ao c, v = .slice ao 0 c ∧ l = []) ∨ ∃ g o c, v = .slice (some ⟨g, o, none⟩) l.length c ∧ 0 < l.length ∧ l.length ≤ c ∧ c ≤ maxLen ∧ ∀ j (hj : j < l.length), w.cell? ⟨g, o + j, none⟩ = some (.int .u8 (l[j]).toNat) := by
  obtain ⟨ao, c, rfl, h1, h2, h3⟩ := h
  by_cases h0 : 0 < l.length
  · obtain ⟨g, o, rfl, _⟩ := h3 0 h0
    refine .inr ⟨g, o, c, rfl, h0, h1, h2, fun j hj => ?_⟩
    obtain ⟨g', o', e, hc⟩ := h3 j hj
    simp at e
    obtain ⟨rfl, rfl⟩ := e
    exact hc
  · obtain rfl : l = [] := List.eq_nil_of_length_eq_zero (by omega)
    exact .inl ⟨ao, c, rfl, rfl⟩
/-- What is below the first new block reads on. -/
theorem Bs.below {B : Nat} {w w' : World} {v : Value} {l : List UInt8} (h : Bs w v l) (hb : Below B w w') (hB : w.heap.size ≤ B) : Bs w' v l := by
  obtain ⟨ao, c, rfl, h1, h2, h3⟩ := h
  refine ⟨ao, c, rfl, h1, h2, fun j hj => ?_⟩
  obtain ⟨g, o, e, hc⟩ := h3 j hj
  have hlt := World.block_lt_of_cell? w _ hc
  exact ⟨g, o, e, (hb.cell (p := ⟨g, o + j, none⟩) (by exact Nat.lt_of_lt_of_le hlt hB)).trans hc⟩
/-- A block of the call's own, whole. -/
abbrev Row (w : World) (g : Nat) (l : List UInt8) : Prop := w.heap[g]? = some (.cells (Lib.byteCells l).toArray 5 (0, 0))
theorem Row.cell {w : World} {g : Nat} {l : List UInt8} (h : Row w g l) (j : Nat) (hj : j < l.length) : w.cell? ⟨g, j, none⟩ = some (.int .u8 (l[j]).toNat) := by
  rw [cell_of_row w g j _ 5 (0, 0) h]
  simp [Lib.byteCells, hj]
theorem Row.frozen {w : World} {g : Nat} {l : List UInt8} (h : Row w g l) (j : Nat) : w.frozen? ⟨g, j, none⟩ = false := frozen_of_row w g j _ 5 h
theorem Row.bs {w : World} {g n c : Nat} {l : List UInt8} (h : Row w g l) (hn : n ≤ l.length) (hc : n ≤ c) (hm : c ≤ maxLen) : Bs w (.slice (some ⟨g, 0, none⟩) n c) (l.take n) := by
  have e : (l.take n).length = n := by simp; omega
  have := Bs.row (w := w) (g := g) (o := 0) (c := c) (l := l.take n) (by omega) hm (fun j hj => by
    rw [e] at hj
    have := h.cell j (by omega)
    simpa using this)
  rwa [e] at this
theorem Row.set {w : World} {g : Nat} {l : List UInt8} (h : Row w g l) (j : Nat) (b : UInt8) : Row (w.setCell ⟨g, j, none⟩ (.int .u8 b.toNat)) g (l.set j b) := by
  have := heap_setCell_same w g j _ 5 (.int .u8 b.toNat) h
  unfold Row
  rw [this]
  simp [Lib.byteCells, List.map_set]
theorem Row.below {B : Nat} {w w' : World} {g : Nat} {l : List UInt8} (h : Row w g l) (hb : Below B w w') (hB : g < B) : Row w' g l := (hb.block g hB).trans h
theorem Row.lt {w : World} {g : Nat} {l : List UInt8} (h : Row w g l) : g < w.heap.size := (Array.getElem?_eq_some_iff.1 h).1

/-! ### Sum -/
end Go.Proofs.YtfbhoemfabgjpaaGreat.Pak

namespace Go.Proofs.YtfbhoemfabgjpaaGreat.Pak
open Go.RowKit
set_option maxRecDepth 100000
theorem info5 : (Tryz.prog.info? 5).map (fun i => (i.zero, i.size, i.bytes)) = some (some (.int .u8 0), 1, 1) := by kernel_rfl
theorem size5 : (Tryz.prog.info? 5).map (·.size) = some 1 := by kernel_rfl

/-- A full row that is owned is its block. -/
theorem own_block {w : World} {base e g n : Nat} {xs : List Value} (h : w.ownsRow base e 1 (.slice (some ⟨g, 0, none⟩) n n) n xs) : w.heap[g]? = some (.cells xs.toArray e (0, 0)) ∧ base ≤ g := by
  rcases h.2 with ⟨h', _⟩ | ⟨g', cap', cur, h', hb, hg, _, _, hs, htake⟩
  · simp at h'
  · simp only [Value.slice.injEq, Option.some.injEq, Addr.mk.injEq, and_true, true_and] at h'
    obtain ⟨rfl, rfl⟩ := h'
    have : cur = xs.toArray := by
      rw [← htake, List.take_of_length_le (by simp; omega)]
    exact ⟨this ▸ hg, hb⟩
theorem made_bytes (n : Nat) : (madeCells #[Value.int IntKind.u8 0] n).toList = Lib.byteCells (List.replicate n 0) := by
  rw [toList_madeCells_one]
  simp [Lib.byteCells]
theorem byteCells_one (l : List UInt8) : ∀ u ∈ Lib.byteCells l, u.oneCell' = true := by
  intro u hu
  simp only [Lib.byteCells, List.mem_map] at hu
  obtain ⟨b, _, rfl⟩ := hu
  rfl
theorem byteCells_at {l : List UInt8} {j : Nat} {u : Value} (h : (Lib.byteCells l)[j]? = some u) : ∃ hj : j < l.length, u = .int .u8 (l[j]).toNat := by
  simp only [Lib.byteCells, List.getElem?_map, Option.map_eq_some_iff] at h
  obtain ⟨b, hb, rfl⟩ := h
  obtain ⟨hj, e⟩ := List.getElem?_eq_some_iff.1 hb
  exact ⟨hj, by rw [e]⟩
/-- What a copy out of a slice of bytes asks. -/
theorem Bs.src {w w' : World} {ao : Option Addr} {l : List UInt8} (h3 : ∀ j (hj : j < l.length), ∃ g o, ao = some ⟨g, o, none⟩ ∧ w.cell? ⟨g, o + j, none⟩ = some (.int .u8 (l[j]).toNat)) (hb : Below w.heap.size w w') (m : Nat) (hm : m ≤ l.length) :
    0 < m → ∃ ad, ao = some ad ∧ ∀ j v, (Lib.byteCells (l.take m))[j]? = some v → w'.cell? (ad.add j) = some v := by
  intro h0
  obtain ⟨g, o, rfl, _⟩ := h3 0 (by omega)
  refine ⟨_, rfl, fun j v hv => ?_⟩
  obtain ⟨hj, rfl⟩ := byteCells_at hv
  simp at hj
  obtain ⟨g', o', e, hc⟩ := h3 j (by omega)
  simp at e
  obtain ⟨rfl, rfl⟩ := e
  have hlt := World.block_lt_of_cell? w _ hc
  rw [show (⟨g, o, none⟩ : Addr).add j = ⟨g, o + j, none⟩ by simp [Addr.add], hb.cell (p := ⟨g, o + j, none⟩) hlt, hc]
  simp

end Go.Proofs.YtfbhoemfabgjpaaGreat.Pak
