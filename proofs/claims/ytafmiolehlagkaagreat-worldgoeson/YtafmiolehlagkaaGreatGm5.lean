import Derived.Test.YtafmiolehlagkaaGreatGm4
import Derived.Test.YtafmiolehlagkaaGreatRows
import Derived.ProofKit
import Derived.OpenShut
import Derived.ShutString
import Derived.ChangeOld
import Derived.SizedLaws
import Derived.JoinedCond
import Derived.Deep.CondSized
import Derived.Test.YtafmiolehlagkaaGreatWRows
import Derived.Deep.RegionHeld3
import Derived.Test.YtafmiolehlagkaaGreatGm2
import Derived.Lib.SliceRun
import Derived.Maps.RangeWalk
import Derived.Test.YtafmiolehlagkaaGreatGm3
/-
  World: WorldStale's walk.
-/
namespace Go.Proofs.YtafmiolehlagkaaGreat
open Go.RowKit
set_option maxRecDepth 100000
abbrev Dd := Int × Int × Int × Int
/-- Deeds that came in. -/
def De (w : World) (v : Value) (ds : List Dd) : Prop :=
  ∃ ao c, v = .slice ao ds.length c ∧ ds.length ≤ c ∧ c ≤ maxLen ∧ ∀ i (hi : i < ds.length), ∃ g o, ao = some ⟨g, o, none⟩ ∧ w.cell? ⟨g, o + i * 4, none⟩ = some (.int .i64 ds[i].1) ∧ w.cell? ⟨g, o + i * 4 + 1, none⟩ = some (.int .i64 ds[i].2.1) ∧ w.cell? ⟨g, o + i * 4 + 2, none⟩ = some (.int .i64 ds[i].2.2.1) ∧ w.cell? ⟨g, o + i * 4 + 3, none⟩ = some (.int .i64 ds[i].2.2.2)
def Bd (x : Int) : Prop := -9223372036854775808 ≤ x ∧ x ≤ 9223372036854775807
def DdOk (d : Dd) : Prop := Bd d.1 ∧ Bd d.2.1 ∧ Bd d.2.2.1 ∧ Bd d.2.2.2
end Go.Proofs.YtafmiolehlagkaaGreat

/-
  WorldStale, for every input: what came in, opened; the row.
-/
namespace Go.Proofs.YtafmiolehlagkaaGreat
open Go.ChangeShapes Go.WideShapes Go.ChangeAt Go.RowKit
set_option maxRecDepth 100000
theorem own : ownKnob Tryz.prog.godebug = none := by kernel_rfl
theorem laidOut : laidOutB Tryz.prog = true := by kernel_rfl
theorem int_at {H : Type} {enc : TypeId × Value → H} {W : World} {m j t : Nat} (ht : Tryz.prog.underlying t = some (.int .i64)) (hc1 : Tryz.prog.cellsOf t = 1) {cs : List Value} {y : DataW H × List MemPlace} (h : DataW.trod enc Tryz.prog W 0 (fun _ => true) true m t ((cs.drop j).take (Tryz.prog.cellsOf t)) = some y) : ∃ n : Int, cs[j]? = some (.int .i64 n) ∧ Bd n := by
  rw [hc1] at h
  obtain ⟨n, hn, _, hw⟩ := DataW.trod_int ht h
  refine ⟨n, ?_, ?_⟩
  · have h2 := congrArg (fun l => l[0]?) hn
    simpa [List.getElem?_take, List.getElem?_drop] using h2
  · simp [Lit.wf, IntKind.min, IntKind.max, IntKind.signed, IntKind.bits] at hw
    exact hw
theorem deed_cells {H : Type} {enc : TypeId × Value → H} {W : World} {fuel : Nat} {cs : List Value} {x : DataW H × List MemPlace} (hf : DataW.trod enc Tryz.prog W 0 (fun _ => true) true fuel 69 cs = some x) :
    ∃ d : Dd, (cs[0]? = some (.int .i64 d.1) ∧ cs[1]? = some (.int .i64 d.2.1) ∧ cs[2]? = some (.int .i64 d.2.2.1) ∧ cs[3]? = some (.int .i64 d.2.2.2)) ∧ DdOk d := by
  obtain ⟨xs, m, _, hx, _, hxl, hfs⟩ := DataW.trod_struct Tryz.underlying69 hf
  have hxl4 : xs.length = 4 := hxl
  have g0 := hfs 0 _ rfl
  have g1 := hfs 1 _ rfl
  have g2 := hfs 2 _ rfl
  have g3 := hfs 3 _ rfl
  rw [List.getElem?_eq_getElem (by omega)] at g0 g1 g2 g3
  obtain ⟨a, k0, h0⟩ := int_at Tryz.underlying3 (by kernel_rfl) g0
  obtain ⟨b, k1, h1⟩ := int_at Tryz.underlying3 (by kernel_rfl) g1
  obtain ⟨c, k2, h2⟩ := int_at Tryz.underlying3 (by kernel_rfl) g2
  obtain ⟨d, k3, h3⟩ := int_at Tryz.underlying2 (by kernel_rfl) g3
  exact ⟨(a, b, c, d), ⟨k0, k1, k2, k3⟩, h0, h1, h2, h3⟩
theorem deeds_of {W : World} {ao : Option Addr} : ∀ (n : Nat), (∀ i, i < n → ∃ g o, ao = some ⟨g, o, none⟩ ∧ ∃ d : Dd, DdOk d ∧ W.cell? ⟨g, o + i * 4, none⟩ = some (.int .i64 d.1) ∧ W.cell? ⟨g, o + i * 4 + 1, none⟩ = some (.int .i64 d.2.1) ∧ W.cell? ⟨g, o + i * 4 + 2, none⟩ = some (.int .i64 d.2.2.1) ∧ W.cell? ⟨g, o + i * 4 + 3, none⟩ = some (.int .i64 d.2.2.2)) →
    ∃ ds : List Dd, ds.length = n ∧ (∀ d ∈ ds, DdOk d) ∧ ∀ i (hi : i < ds.length), ∃ g o, ao = some ⟨g, o, none⟩ ∧ W.cell? ⟨g, o + i * 4, none⟩ = some (.int .i64 ds[i].1) ∧ W.cell? ⟨g, o + i * 4 + 1, none⟩ = some (.int .i64 ds[i].2.1) ∧ W.cell? ⟨g, o + i * 4 + 2, none⟩ = some (.int .i64 ds[i].2.2.1) ∧ W.cell? ⟨g, o + i * 4 + 3, none⟩ = some (.int .i64 ds[i].2.2.2)
  | 0, _ => ⟨[], rfl, fun d hd => (by cases hd), fun i hi => absurd hi (by simp)⟩
  | n + 1, h => by
    obtain ⟨ds, e1, e2, e3⟩ := deeds_of n (fun i hi => h i (by omega))
    obtain ⟨g, o, ea, d, hd, hc⟩ := h n (by omega)
    refine ⟨ds ++ [d], by simp [e1], fun x hx => ?_, fun i hi => ?_⟩
    · rcases List.mem_append.1 hx with hx | hx
      · exact e2 x hx
      · rw [List.mem_singleton.1 hx]; exact hd
    · by_cases c : i < ds.length
      · rw [List.getElem_append_left c]
        exact e3 i c
      · have hin : i = ds.length := by simp at hi; omega
        subst hin
        rw [List.getElem_append_right (Nat.le_refl _)]
        simp only [Nat.sub_self, List.getElem_cons_zero, e1]
        exact ⟨g, o, ea, hc⟩
theorem deeds_arg {H : Type} {enc : TypeId × Value → H} {W : World} {a0 : Option Addr} {len0 cap0 : Nat} {d0 : DataW H} {p0 : List MemPlace} (h0 : DataW.Trod enc Tryz.prog W 0 (fun _ => true) true 58 (.slice a0 len0 cap0) d0 p0) : ∃ ds : List Dd, De W (.slice a0 len0 cap0) ds ∧ ∀ d ∈ ds, DdOk d := by
  obtain ⟨fuel, hf⟩ := h0
  rcases DataW.trod_slice Tryz.underlying58 hf with ⟨hcs, _⟩ | ⟨a, len, cap, elems, rest, n, _, hcs, hx, _, hl, hm, hlen, hel, _, _⟩
  · simp [Value.cells] at hcs
    obtain ⟨rfl, rfl, rfl⟩ := hcs
    exact ⟨[], ⟨none, 0, rfl, Nat.le_refl _, Nat.zero_le _, fun i hi => absurd hi (by simp)⟩, fun d hd => by cases hd⟩
  · simp [Value.cells] at hcs
    obtain ⟨rfl, rfl, rfl⟩ := hcs
    have hc4 : Tryz.prog.cellsOf 69 = 4 := by kernel_rfl
    have spot0 : 0 < len0 → ∃ b off, a = ⟨b, off, none⟩ := fun hp => by
      have h1 := hel 0 hp
      rw [List.getElem?_eq_getElem (by omega), hc4, Option.bind_eq_some_iff] at h1
      obtain ⟨cs', hcs', ht'⟩ := h1
      obtain ⟨d, ⟨k0, -⟩, -⟩ := deed_cells ht'
      obtain ⟨_, _, hcell⟩ := World.cells?_some hcs'
      have q0 := (hcell 0 (by omega)).trans k0
      obtain ⟨b, off, spot⟩ := a
      have hspot : spot = none := by simpa [Addr.add] using World.cell?_spot q0
      subst hspot
      exact ⟨b, off, rfl⟩
    obtain ⟨ds, e1, e2, e3⟩ := deeds_of (W := W) (ao := some a) len0 (fun i hi => by
      have h1 := hel i hi
      rw [List.getElem?_eq_getElem (by omega), hc4, Option.bind_eq_some_iff] at h1
      obtain ⟨cs', hcs', ht'⟩ := h1
      obtain ⟨d, ⟨k0, k1, k2, k3⟩, hok⟩ := deed_cells ht'
      obtain ⟨_, _, hcell⟩ := World.cells?_some hcs'
      have q0 := (hcell 0 (by omega)).trans k0
      have q1 := (hcell 1 (by omega)).trans k1
      have q2 := (hcell 2 (by omega)).trans k2
      have q3 := (hcell 3 (by omega)).trans k3
      obtain ⟨blk, off, rfl⟩ := spot0 (by omega)
      rw [Go.WideShapes.add_plain, Go.WideShapes.add_plain] at q0 q1 q2 q3
      exact ⟨blk, off, rfl, d, hok, q0, q1, q2, q3⟩)
    subst e1
    exact ⟨ds, ⟨some a, cap0, rfl, hl, hm, e3⟩, e2⟩
end Go.Proofs.YtafmiolehlagkaaGreat
namespace Go.Proofs.YtafmiolehlagkaaGreat.worldStale
open Go.ChangeShapes Go.WideShapes Go.ChangeAt Go.RowKit
end Go.Proofs.YtafmiolehlagkaaGreat.worldStale
namespace Go.Proofs.YtafmiolehlagkaaGreat
end Go.Proofs.YtafmiolehlagkaaGreat

/-
  World: Shapes: a map from sets to how many.
-/
namespace Go.Proofs.YtafmiolehlagkaaGreat
open Go.RowKit
set_option maxRecDepth 100000
/-- A range over the map of tables under way: S: which sets came. -/
def Rq (w : World) (gm r n : Nat) (q : Nat → Option Nat) (S : List Nat) (cnt : Nat) : Prop :=
  ∃ (D : DataW Nat) (left : Lit → Bool), w.ranges Tryz.prog 3 ptrElem gm r n D left cnt ∧ S.Nodup ∧ (∀ s ∈ S, s < 9007199254740992 ∧ (q s).isSome = true) ∧ (∀ s : Nat, s < 9007199254740992 → (left (.int .i64 (s : Int)) = true ↔ (q s).isSome = true ∧ s ∉ S)) ∧ (∀ kl, left kl = true → ∃ s : Nat, s < 9007199254740992 ∧ kl = .int .i64 (s : Int)) ∧ ∀ s : Nat, s < 9007199254740992 → ∀ g, q s = some g → D.atKey (.int .i64 (s : Int)) .nil = .held g
section
variable {w w' : World} {gm r n cnt : Nat} {q : Nat → Option Nat} {S : List Nat}
theorem Rq.kept {row : Option Nat} (h : Rq w gm r n q S cnt) (hg : w.grownBy w' row) (h1 : some gm ≠ row) (h2 : some r ≠ row) : Rq w' gm r n q S cnt := by
  obtain ⟨D, left, a1, a2⟩ := h
  exact ⟨D, left, a1.kept hg h1 h2, a2⟩
theorem Rq.left_eq (h : Rq w gm r n q S cnt) : w.rangeLeft gm r = cnt := by
  obtain ⟨D, left, a1, a2⟩ := h
  exact a1.left_eq
theorem Rq.start {D : DataW Nat} (h2 : ∀ s : Nat, s < 9007199254740992 → Maps.has D (.int .i64 (s : Int)) = (q s).isSome ∧ ∀ g, q s = some g → D.atKey (.int .i64 (s : Int)) .nil = .held g) (hz : ∀ kl, Maps.has D kl = true → ∃ s : Nat, s < 9007199254740992 ∧ kl = .int .i64 (s : Int)) (hr : w'.ranges Tryz.prog 3 ptrElem gm r n D (Maps.has D) (Maps.size D)) : Rq w' gm r n q [] (Maps.size D) :=
  ⟨D, _, hr, List.nodup_nil, fun e h => (by cases h), fun s hs => (by rw [(h2 s hs).1]; simp), hz, fun s hs => (h2 s hs).2⟩
theorem Rq.done (h : Rq w gm r n q S cnt) (hl : cnt = 0) : ∀ s, s < 9007199254740992 → (q s).isSome = true → s ∈ S := by
  obtain ⟨D, left, a1, -, -, a4, -⟩ := h
  rcases a1.next keyed3 0 with ⟨_, b2, _⟩ | ⟨key, v, kl, y, w', cnt', _, _, _, _, _, _, c7, _⟩
  · intro s hs hf
    by_cases c : s ∈ S
    · exact c
    · have := (a4 s hs).2 ⟨hf, c⟩
      rw [b2] at this
      cases this
  · omega
/-- The next one: none is left, or one comes. -/
theorem Rq.next (h : Rq w gm r n q S cnt) (ty : TypeId) :
    (cnt = 0 ∧ (Instr.next (.pointer (some ⟨r, 0, none⟩)) false ty).run Tryz.prog w = .ok (.tuple #[.bool false]) w) ∨
    ∃ (s g : Nat) (w' : World) (cnt' : Nat), s < 9007199254740992 ∧ q s = some g ∧ s ∉ S ∧ (Instr.next (.pointer (some ⟨r, 0, none⟩)) false ty).run Tryz.prog w = .ok (.tuple #[.bool true, .int .i64 (s : Int), .pointer (some ⟨g, 0, none⟩)]) w' ∧ Rq w' gm r n q (S ++ [s]) cnt' ∧ cnt' < cnt ∧ w.grownBy w' (some r) ∧ w'.heap.size = w.heap.size ∧ (Instr.entry (.pointer (some ⟨r, 0, none⟩))).run Tryz.prog w' = .ok (.tuple #[.int .i64 (s : Int), .pointer (some ⟨g, 0, none⟩)]) w' := by
  obtain ⟨D, left, a1, a2, a3, a4, a5, a6⟩ := h
  rcases a1.next keyed3 ty with ⟨b1, b2, b3⟩ | ⟨key, v, kl, y, w', cnt', c1, c2, c3, c4, c5, c6, c7, c8, c9, c10⟩
  · exact .inl ⟨b1, b3⟩
  · obtain ⟨x, rfl, rfl, -⟩ := Maps.keyOf_int_inv Tryz.underlying3 c1
    obtain ⟨s, hs, e⟩ := a5 _ c2
    simp only [Lit.int.injEq, true_and] at e
    subst e
    have h1 := (a4 s hs).1 c2
    obtain ⟨g, hg⟩ := Option.isSome_iff_exists.1 h1.1
    have hy := c4 .nil
    rw [a6 s hs g hg] at hy
    obtain ⟨y1, y2⟩ := y
    dsimp only at hy
    subst hy
    obtain rfl := ptrElem_inv c3
    refine .inr ⟨s, g, w', cnt', hs, hg, h1.2, c5, ⟨D, _, c6, ?_, fun e he => ?_, fun e he => ?_, fun kx hkx => ?_, a6⟩, c7, c8, c9, c10⟩
    · rw [List.nodup_append]
      refine ⟨a2, by simp, fun x hx y hy e => ?_⟩
      simp only [List.mem_singleton] at hy
      subst e
      exact h1.2 (hy ▸ hx)
    · rcases List.mem_append.1 he with he | he
      · exact a3 e he
      · rw [List.mem_singleton.1 he]
        exact ⟨hs, h1.1⟩
    · have hk : ((Lit.int .i64 (e : Int)).sameKey (.int .i64 (s : Int)) = true) ↔ e = s := by
        rw [WideAt.sameKey_iff (keyed3.key c1)]
        simp only [Lit.int.injEq, true_and]
        omega
      have h4 := a4 e he
      simp only [Bool.and_eq_true, Bool.not_eq_true', List.mem_append, List.mem_singleton, not_or]
      rw [← Bool.not_eq_true, hk, h4]
      exact ⟨fun h => ⟨h.1.1, h.1.2, h.2⟩, fun h => ⟨⟨h.1, h.2.1⟩, h.2.2⟩⟩
    · simp only [Bool.and_eq_true] at hkx
      exact a5 kx hkx.1
end
/-! ### A map from numbers to numbers -/
def Mi (w : World) (gm n : Nat) (q : Nat → Option Nat) : Prop :=
  ∃ D : DataW Unit, w.ownsMap Tryz.prog 3 (plainElem Tryz.prog 3) gm n D ∧ (∀ s : Nat, s < 9007199254740992 → Maps.has D (.int .i64 (s : Int)) = (q s).isSome ∧ ∀ i, q s = some i → D.atKey (.int .i64 (s : Int)) (.lit (.int .i64 0)) = .lit (.int .i64 (i : Int))) ∧ ∀ kl, Maps.has D kl = true → ∃ s : Nat, s < 9007199254740992 ∧ kl = .int .i64 (s : Int)
section
variable {w w' : World} {gm n : Nat} {q : Nat → Option Nat}
theorem Mi.made (w : World) : Mi (w.alloc (.map #[] 0)) w.heap.size 0 (fun _ => none) :=
  ⟨.map [], World.ownsMap_made w _ _ _, fun _ _ => ⟨rfl, fun _ h => by cases h⟩, fun kl h => by
    have e : Maps.has (H := Unit) (.map []) kl = false := rfl
    rw [e] at h
    cases h⟩
theorem Mi.same (h : Mi w gm n q) (hs : w'.heap[gm]? = w.heap[gm]?) : Mi w' gm n q := by
  obtain ⟨D, ⟨es, ck, h1, h2⟩, h3⟩ := h
  exact ⟨D, ⟨es, ck, hs.trans h1, h2⟩, h3⟩
theorem Mi.kept {row : Option Nat} (h : Mi w gm n q) (hg : w.grownBy w' row) (h1 : row ≠ some gm) : Mi w' gm n q := by
  have hl : gm < w.heap.size := by
    obtain ⟨D, h1, -⟩ := h
    exact h1.lt
  exact h.same (((Mv.refl w (fun k => row = some k)).grown hg (fun k _ e => e)).2.2.2.2 gm hl h1)
theorem Mi.lt (h : Mi w gm n q) : gm < w.heap.size := by
  obtain ⟨D, h1, -⟩ := h
  exact h1.lt
theorem Mi.store (h : Mi w gm n q) (s i : Nat) (hs : s < 9007199254740992) (hi : i ≤ 1000000) (hn : n ≤ 1000000) : ∃ w', (Instr.mapUpdate 80 (.map (some gm)) (.int .i64 (s : Int)) (.int .i64 (i : Int))).run Tryz.prog w = .ok () w' ∧ Mi w' gm (n + 1) (fun x => if x = s then some i else q x) ∧ w.mapTurned w' gm := by
  obtain ⟨D, h1, h2, hz⟩ := h
  have hw : (Lit.int .i64 (i : Int)).wf = true := by simp [Lit.wf, IntKind.min, IntKind.max, IntKind.signed, IntKind.bits]; omega
  obtain ⟨w', hr, h3, h4⟩ := h1.store keyed3 Tryz.underlying80 (by unfold maxLen; omega) (key3 s hs) (plainElem_int Tryz.underlying3 hw)
  refine ⟨w', hr, ⟨_, h3, fun x hx => ?_, fun kl hkl => ?_⟩, h4⟩
  rotate_left
  · by_cases c : kl = .int .i64 (s : Int)
    · exact ⟨s, hs, c⟩
    · rw [Maps.has_put_other c] at hkl
      exact hz kl hkl
  by_cases ex : x = s
  · subst ex
    refine ⟨by rw [Maps.has_put_same h1.isMap (keyed3.key (key3 x hs))]; simp, fun j hj => ?_⟩
    rw [Maps.atKey_put_same h1.isMap (keyed3.key (key3 x hs))]
    simp only [if_true, Option.some.injEq] at hj
    rw [hj]
  · have hne : (Lit.int .i64 (x : Int)) ≠ .int .i64 (s : Int) := fun e' => by
      simp only [Lit.int.injEq, true_and] at e'
      omega
    rw [Maps.has_put_other hne, Maps.atKey_put_other hne]
    simp only [if_neg ex]
    exact h2 x hx
end
/-! ### Shapes -/
def Sh (w : World) (gt M : Nat) (q : Nat → Option Nat) (T : Nat → Ts) (W : World) (S : List Nat) (cnt : Nat) : Prop :=
  Rq W gt (w.heap.size + 1) M q S cnt ∧ Mi W w.heap.size S.length (fun s => if s ∈ S then some (T s).1.length else none) ∧ Below w.heap.size w W
section
variable {w w' : World} {own : Nat → Nat} {gw gp gm gt M M' : Nat} {vk : Value} {ks : List Kind} {gs fr gs' fr' : List Nat} {f f' : Int × Int → Option Nat} {q q' : Nat → Option Nat} {T T' : Nat → Ts} {S : List Nat} {cnt : Nat} {W : World}
theorem Sh.short (h : Sh w gt M q T W S cnt) (hw : Wi ks f q T) : S.length ≤ 8192 := by
  obtain ⟨⟨D, left, -, a2, a3, -⟩, -⟩ := h
  refine nodup_len 8192 S a2 (fun s hs => ?_)
  obtain ⟨g, hg⟩ := Option.isSome_iff_exists.1 (a3 s hs).2
  exact (hw.2 s g hg).1.1
theorem Sh.fin (h : Sh w gt M q T W S 0) (hw : Wi ks f q T) : (∃ n, n ≤ 8192 ∧ Mi W w.heap.size n (fun s => (q s).map fun _ => (T s).1.length)) ∧ Below w.heap.size w W := by
  have hl := h.short hw
  obtain ⟨h1, h2, h3⟩ := h
  refine ⟨⟨_, hl, ?_⟩, h3⟩
  have e : (fun s => if s ∈ S then some (T s).1.length else none) = (fun s => (q s).map fun _ => (T s).1.length) := by
    funext s
    cases hq : q s with
    | none =>
      have : s ∉ S := fun hs => by
        obtain ⟨D, left, -, -, a3, -⟩ := h1
        have := (a3 s hs).2
        rw [hq] at this
        cases this
      rw [if_neg this]
      rfl
    | some g =>
      have := (hw.2 s g hq).1.1
      rw [if_pos (h1.done rfl s (by omega) (by rw [hq]; rfl))]
      rfl
  rw [← e]
  exact h2
end
end Go.Proofs.YtafmiolehlagkaaGreat

/-
  World: rows that are the same.
-/
namespace Go.Proofs.YtafmiolehlagkaaGreat
open Go.RowKit
set_option maxRecDepth 100000
theorem Rp.slice {w : World} {v : Value} {L : List Pt} (h : Rp w v L) : ∃ a c, v = .slice a L.length c ∧ L.length ≤ maxLen := by
  rcases h with ⟨rfl, rfl⟩ | ⟨g, o, c, rfl, h1, h2, -⟩
  · exact ⟨none, 0, rfl, Nat.zero_le _⟩
  · exact ⟨_, c, rfl, by omega⟩
theorem Rp.at {w : World} {a : Option Addr} {n c : Nat} {L : List Pt} (h : Rp w (.slice a n c) L) (i : Nat) (hi : i < L.length) : n = L.length ∧ ∃ g o, a = some ⟨g, o, none⟩ ∧ w.cell? ⟨g, o + i * 2, none⟩ = some (.int .i64 L[i].1) ∧ w.cell? ⟨g, o + i * 2 + 1, none⟩ = some (ptV L[i]) := by
  rcases h with ⟨-, rfl⟩ | ⟨g, o, c', e, -, -, h3⟩
  · simp at hi
  · simp only [Value.slice.injEq] at e
    obtain ⟨rfl, rfl, -⟩ := e
    obtain ⟨p1, p2⟩ := pz_at L i hi
    exact ⟨rfl, g, o, rfl, h3 _ _ p1, by rw [Nat.add_assoc]; exact h3 _ _ p2⟩
/-- Two rows that read alike. -/
def SameRow (W : World) (r r' : Rt) : Prop := entR r = entR r' ∧ ∃ L L', Rp W (rtV r) L ∧ Rp W (rtV r') L' ∧ L.length = L'.length ∧ ∀ i (h : i < L.length) (h' : i < L'.length), L[i].1 = L'[i].1 ∧ ∃ l, Iz W (ptV L[i]) l ∧ Iz W (ptV L'[i]) l
theorem SameRow.later {W W' : World} {r r' : Rt} (h : SameRow W r r') (hb : Below W.heap.size W W') : SameRow W' r r' := by
  obtain ⟨h1, L, L', h2, h3, h4, h5⟩ := h
  refine ⟨h1, L, L', h2.later hb, h3.later hb, h4, fun i i1 i2 => ?_⟩
  obtain ⟨x1, l, x2, x3⟩ := h5 i i1 i2
  exact ⟨x1, l, x2.later hb, x3.later hb⟩
end Go.Proofs.YtafmiolehlagkaaGreat

/-
  World: slices.DeleteFunc of parts: one kind is taken away.
-/
namespace Go.Proofs.YtafmiolehlagkaaGreat
open Go.RowKit
set_option maxRecDepth 100000
theorem pz_set : ∀ (l : List Pt) (i : Nat) (p : Pt), i < l.length → ((pz l).set (i * 2) (.int .i64 p.1)).set (i * 2 + 1) (ptV p) = pz (l.set i p)
  | x :: t, 0, p, _ => rfl
  | x :: t, i + 1, p, h => by
    have := pz_set t i p (by simpa using h)
    rw [show (i + 1) * 2 = i * 2 + 1 + 1 by omega]
    simpa [pz] using this
theorem pz_take : ∀ (l : List Pt) (n : Nat), (pz l).take (n * 2) = pz (l.take n)
  | [], n => by simp [pz]
  | p :: t, 0 => by simp [pz]
  | p :: t, n + 1 => by
    rw [show (n + 1) * 2 = n * 2 + 1 + 1 by omega]
    simpa [pz] using pz_take t n
theorem own_pset {w : World} {B g n c : Nat} {l : List Pt} (h : w.ownsRow B 32 2 (.slice (some ⟨g, 0, none⟩) n c) n (pz l)) (i : Nat) (p : Pt) (hi : i < l.length) : ((w.setCell ⟨g, i * 2, none⟩ (.int .i64 p.1)).setCell ⟨g, i * 2 + 1, none⟩ (ptV p)).ownsRow B 32 2 (.slice (some ⟨g, 0, none⟩) n c) n (pz (l.set i p)) := by
  rw [← pz_set l i p hi]
  exact ((h.stored (i * 2) _).1.stored (i * 2 + 1) _).1
theorem grown_two' (w : World) (g i j : Nat) (u v : Value) : w.grownBy ((w.setCell ⟨g, i, none⟩ u).setCell ⟨g, j, none⟩ v) (some g) := grown_two (grown_set _ _ _ _) (grown_set _ _ _ _)
theorem clear_part (w : World) (ty g o c : Nat) (h0 : (w.cell? ⟨g, o, none⟩).isSome = true) (h1 : (w.cell? ⟨g, o + 1, none⟩).isSome = true) (f0 : w.frozen? ⟨g, o, none⟩ = false) (f1 : w.frozen? ⟨g, o + 1, none⟩ = false) :
    (Builtin.clear_ #[33] ty #[.slice (some ⟨g, o, none⟩) 1 c]).run Tryz.prog w = .ok (.tuple #[]) (w.setCells g o [.int .i64 0, .slice none 0 0]) := by
  have hzc : (Builtin.zeroCells #[.int .i64 0, .slice none 0 0] 1).toList = [.int .i64 0, .slice none 0 0] := by kernel_rfl
  have hst := run_storeCells_cells (P := Tryz.prog) g o [.int .i64 0, .slice none 0 0] 0 w (by
    intro j hj
    match j, hj with
    | 0, _ => simpa using h0
    | 1, _ => simpa using h1) (by
    intro j hj
    match j, hj with
    | 0, _ => simpa using f0
    | 1, _ => simpa using f1) (by
    intro v hv
    simp at hv
    rcases hv with rfl | rfl <;> rfl)
  simp only [Nat.add_zero] at hst
  simp [Builtin.clear_, run_underlying Tryz.underlying33, Value.cells, hzc, hst]
theorem block_kind2 {w : World} {B e s n g : Nat} {e' : TypeId} {v : Value} {xs : List Value} {o : Array Value} (h : w.ownsRow B e s v n xs) (hg : w.heap[g]? = some (.cells o e' (0, 0))) (hne : e ≠ e') : v.ownBlock ≠ some g := fun hk => by
  rcases h.2 with ⟨rfl, -⟩ | ⟨g', c, cur, rfl, -, hg', -⟩
  · simp [Value.ownBlock] at hk
  · simp only [Value.ownBlock, Option.some.injEq] at hk
    subst hk
    rw [hg] at hg'
    simp only [Option.some.injEq, Obj.cells.injEq] at hg'
    exact hne hg'.2.1.symm
set_option maxHeartbeats 1000000 in
theorem isdel_any {w : World} {kb : Nat} {k x : Int} {a : Option Addr} {n c : Nat} (h : w.heap[kb]? = some (.cells #[.int .i64 k] 3 (0, 0))) :
    Calls Tryz.prog 79 #[.agg #[.int .i64 x, .slice a n c], .pointer (some ⟨kb, 0, none⟩)] w fun e w' => e = .returned (.bool (x == k)) ∧ Below w.heap.size w w' := by
  have hb := below_alloc w (.cells #[.int .i64 x, .slice a n c] 32)
  have hx := (hb.block kb (lt_of_block h)).trans h
  have c0 : (w.alloc (.cells #[.int .i64 x, .slice a n c] 32)).cell? ⟨kb, 0, none⟩ = some (.int .i64 k) := by rw [cell_of_row _ kb _ _ 3 (0, 0) hx]; rfl
  have HB := hide hb
  clear hb hx
  go_enter Tryz.func79, Tryz.ntmps79
  go_wp2_with fail
  go_ret
  exact ⟨rfl, HB.out⟩
set_option maxHeartbeats 2000000 in
theorem index_fn {w : World} {kb : Nat} {k : Int} {B : Nat} {a0 : Option Addr} {n c : Nat} {A Bq : List Pt} {p : Pt} (hk : w.heap[kb]? = some (.cells #[.int .i64 k] 3 (0, 0))) (ho : w.ownsRow B 32 2 (.slice a0 n c) n (pz (A ++ p :: Bq))) (hA : ∀ x ∈ A, x.1 ≠ k) (hp : p.1 = k) :
    Calls Tryz.prog 148 #[.slice a0 n c, .func (.func 79) #[] #[.pointer (some ⟨kb, 0, none⟩)]] w fun e w' => e = .returned (.int .i64 (A.length : Int)) ∧ Below w.heap.size w w' := by
  have hn : n = A.length + 1 + Bq.length := by
    have := ho.1
    rw [pz_len] at this
    simp at this
    omega
  obtain ⟨g, c', e, hc1, hc2⟩ := own_form ho (by omega)
  simp only [Value.slice.injEq] at e
  obtain ⟨rfl, -, rfl⟩ := e
  have HO := hide ho
  have HK := hide hk
  have HA := hide hA
  have HN := hide hn
  have HP := hide hp
  have hAn : A.length < n := by omega
  clear ho hk hA hn hp
  go_enter Tryz.func148, Tryz.ntmps148
  go_wp2_with fail
  go_loopw [8] (fun v8 W => ∃ i : Nat, i ≤ A.length ∧ v8 = .int .i64 (i : Int) ∧ Hid (Below w.heap.size w W)) (fun v8 _ => n - (intOf v8).toNat)
  case atStart => exact ⟨0, Nat.zero_le _, rfl, Below.refl _ _⟩
  case round =>
    obtain ⟨i, hi, rfl, HB⟩ := hrel
    have t1 : (i : Int) < (n : Int) := by omega
    have t0 : (0 : Int) ≤ (i : Int) := by omega
    have hlt : i < (A ++ p :: Bq).length := by have := HN.out; simp; omega
    have ho := own_later HO.out HB.out
    have e1 := ho.cellAt (i * 2) (by omega)
    have e2 := ho.cellAt (i * 2 + 1) (by omega)
    rw [(pz_at _ i hlt).1] at e1
    rw [(pz_at _ i hlt).2] at e2
    have hkb := (HB.out.block kb (lt_of_block HK.out)).trans HK.out
    have hcase : (i < A.length ∧ ((A ++ p :: Bq)[i].1 == k) = false) ∨ (i = A.length ∧ ((A ++ p :: Bq)[i].1 == k) = true) := by
      by_cases d : i < A.length
      · left
        refine ⟨d, ?_⟩
        rw [List.getElem_append_left d, beq_eq_false_iff_ne]
        exact HA.out _ (List.getElem_mem d)
      · right
        have : i = A.length := by omega
        subst this
        refine ⟨rfl, ?_⟩
        rw [List.getElem_append_right (Nat.le_refl _)]
        simp only [Nat.sub_self, List.getElem_cons_zero, HP.out, beq_self_eq_true]
    generalize (A ++ p :: Bq)[i] = x at *
    obtain ⟨xk, xa, xn, xc⟩ := x
    dsimp only at e1 e2 hcase
    have J := hide (isdel_any (x := xk) (a := xa) (n := xn) (c := xc) hkb)
    clear ho hkb
    rcases hcase with ⟨d, ht⟩ | ⟨d, ht⟩
    · rw [ht] at J
      clear ht
      go_wp2_with fail
      refine J.out.mono ?_
      rintro e w5 ⟨rfl, hb5⟩
      have HB5 := hide (below_on HB.out hb5)
      clear hb5 J
      go_wp2_with fail
      go_roundw
      case rel => exact ⟨i + 1, by omega, by go_num, HB5⟩
      case measure => simp [intOf]; omega
    · rw [ht] at J
      subst d
      clear ht
      go_wp2_with fail
      refine J.out.mono ?_
      rintro e w5 ⟨rfl, hb5⟩
      have HB5 := hide (below_on HB.out hb5)
      clear hb5 J
      go_wp2_with fail
      go_ret
      exact ⟨rfl, HB5.out⟩
/-- The list under way: m of those behind have moved up. -/
theorem del_step (A Bq : List Pt) (x : Pt) (m al : Nat) (hal : al = A.length) (hm : m < Bq.length) : (A ++ Bq.take m ++ x :: Bq.drop m).set (al + m) Bq[m] = A ++ Bq.take (m + 1) ++ Bq[m] :: Bq.drop (m + 1) ∧ ∃ h : al + 1 + m < (A ++ Bq.take m ++ x :: Bq.drop m).length, (A ++ Bq.take m ++ x :: Bq.drop m)[al + 1 + m] = Bq[m] := by
  subst hal
  have hl : (A ++ Bq.take m).length = A.length + m := by rw [List.length_append, List.length_take]; omega
  have hd : Bq.drop m = Bq[m] :: Bq.drop (m + 1) := List.drop_eq_getElem_cons hm
  refine ⟨?_, by simp; omega, ?_⟩
  · rw [List.set_append_right _ _ (by omega), hl, Nat.sub_self, List.set_cons_zero, ← hd, List.take_succ_eq_append_getElem hm]
    rw [List.append_assoc A, List.append_assoc A, List.append_assoc]
    rfl
  · rw [List.getElem_append_right (by omega)]
    have : A.length + 1 + m - (A ++ Bq.take m).length = 1 := by omega
    simp only [this, List.getElem_cons_succ, hd, List.getElem_cons_zero]
set_option maxHeartbeats 8000000 in
theorem delete_fn {w : World} {kb : Nat} {k : Int} {B : Nat} {a0 : Option Addr} {n c : Nat} {A Bq : List Pt} {p : Pt} (hk : w.heap[kb]? = some (.cells #[.int .i64 k] 3 (0, 0))) (ho : w.ownsRow B 32 2 (.slice a0 n c) n (pz (A ++ p :: Bq))) (hA : ∀ x ∈ A, x.1 ≠ k) (hB : ∀ x ∈ Bq, x.1 ≠ k) (hp : p.1 = k) :
    Calls Tryz.prog 77 #[.slice a0 n c, .func (.func 79) #[] #[.pointer (some ⟨kb, 0, none⟩)]] w fun e w' => ∃ v, e = .returned v ∧ v.ownBlock = (Value.slice a0 n c).ownBlock ∧ w'.ownsRow B 32 2 v (A ++ Bq).length (pz (A ++ Bq)) ∧ w.grownBy w' (Value.slice a0 n c).ownBlock := by
  have J1 := hide (index_fn hk ho hA hp)
  have hn : n = A.length + 1 + Bq.length := by
    have := ho.1
    rw [pz_len] at this
    simp at this
    omega
  obtain ⟨g, c', e, hc1, hc2⟩ := own_form ho (by omega)
  simp only [Value.slice.injEq] at e
  obtain ⟨rfl, -, rfl⟩ := e
  have hkg : kb ≠ g := fun e => block_kind2 ho hk (by decide) (by rw [e]; rfl)
  have H0 : Hid (∀ W, Below w.heap.size w W → W.ownsRow B 32 2 (.slice (some ⟨g, 0, none⟩) n c) n (pz (A ++ Bq.take 0 ++ p :: Bq.drop 0)) ∧ w.grownBy W (some g)) := fun W hW => ⟨by simpa using own_later ho hW, (grown_later hW).but _⟩
  have HK := hide hk
  have HB := hide hB
  have hn48 : n ≤ 9223372036854775807 := by omega
  have HN := hide hn
  have HKG := hide hkg
  have ta : ((A.length : Int) == -1) = false := by rw [beq_eq_false_iff_ne]; omega
  clear ho hk hA hB hn hp hkg
  go_enter Tryz.func77, Tryz.ntmps77
  go_wp2_with fail
  refine J1.out.mono ?_
  rintro e w1 ⟨rfl, hb1⟩
  have H1 := hide (H0.out w1 hb1)
  clear J1 H0 hb1
  have tl : IntKind.i64.wrap ((A.length : Int) + 1) = ((A.length + 1 : Nat) : Int) := by rw [IntKind.wrap_i64]; have := HN.out; omega
  obtain ⟨al, hal⟩ : ∃ x, x = A.length := ⟨_, rfl⟩
  rw [← hal] at ta tl ⊢
  have HAL := hide hal
  clear hal
  go_wp2_with fail
  go_loopw [5, 6] (fun v5 v6 W => ∃ (m : Nat) (x : Pt), m ≤ Bq.length ∧ v6 = .int .i64 ((al + 1 + m : Nat) : Int) ∧ v5 = .int .i64 ((al + m : Nat) : Int) ∧ Hid (W.ownsRow B 32 2 (.slice (some ⟨g, 0, none⟩) n c) n (pz (A ++ Bq.take m ++ x :: Bq.drop m)) ∧ w.grownBy W (some g))) (fun _ v6 _ => n - (intOf v6).toNat)
  case atStart => exact ⟨0, p, Nat.zero_le _, rfl, rfl, H1⟩
  case round =>
    obtain ⟨m, x, hml, rfl, rfl, HM⟩ := hrel
    by_cases hlt : m < Bq.length
    · have t1 : ((al + 1 + m : Nat) : Int) < (n : Int) := by have := HN.out; have := HAL.out; omega
      have t2 : (0 : Int) ≤ ((al + 1 + m : Nat) : Int) := by omega
      have t3 : ((al + m : Nat) : Int) < (n : Int) := by omega
      have t4 : (0 : Int) ≤ ((al + m : Nat) : Int) := by omega
      obtain ⟨ds, hi, de⟩ := del_step A Bq x m al HAL.out hlt
      obtain ⟨e1, e2⟩ := own_part HM.out.1 (al + 1 + m) hi
      have hset := own_pset HM.out.1 (al + m) Bq[m] (by omega)
      rw [de] at e1 e2
      have hne := HB.out _ (List.getElem_mem hlt)
      obtain ⟨j1, hj1⟩ : ∃ j, j = al + 1 + m := ⟨_, rfl⟩
      obtain ⟨j0, hj0⟩ : ∃ j, j = al + m := ⟨_, rfl⟩
      have t5 : IntKind.i64.wrap ((j1 : Int) + 1) = ((al + 1 + (m + 1) : Nat) : Int) := by rw [IntKind.wrap_i64]; omega
      have t6 : IntKind.i64.wrap ((j0 : Int) + 1) = ((al + (m + 1) : Nat) : Int) := by rw [IntKind.wrap_i64]; omega
      rw [← hj1] at e1 e2 t1 t2 ⊢
      rw [← hj0] at hset t3 t4 ⊢
      obtain ⟨z, hz'⟩ : ∃ z, Bq[m] = z := ⟨_, rfl⟩
      rw [hz'] at e1 e2 hset hne
      obtain ⟨zk, za, zn, zc'⟩ := z
      dsimp only [ptV] at e1 e2 hset hne
      have hkb := (HM.out.2.block kb (lt_of_block HK.out) (fun e => HKG.out (Option.some.inj e))).trans HK.out
      have hb5a := below_alloc wr (.cells #[.int .i64 zk, .slice za zn zc'] 32)
      have J := hide (isdel_any (x := zk) (a := za) (n := zn) (c := zc') ((hb5a.block kb (lt_of_block hkb)).trans hkb))
      rw [show (zk == k) = false by rw [beq_eq_false_iff_ne]; exact hne] at J
      obtain ⟨kc, hkc⟩ : ∃ q, q = wr.heap.size := ⟨_, rfl⟩
      have hxc : (wr.alloc (.cells #[.int .i64 zk, .slice za zn zc'] 32)).heap[kc]? = some (.cells #[.int .i64 zk, .slice za zn zc'] 32 (0, 0)) := by rw [hkc]; exact heap_alloc_new wr _
      obtain ⟨wa, hwa⟩ : ∃ X, X = wr.alloc (.cells #[.int .i64 zk, .slice za zn zc'] 32) := ⟨_, rfl⟩
      rw [← hwa] at J hxc hb5a
      have a0 : wa.cell? ⟨kc, 0, none⟩ = some (.int .i64 zk) := by rw [cell_of_row wa kc _ _ 32 (0, 0) hxc]; rfl
      have a1 : wa.cell? ⟨kc, 1, none⟩ = some (.slice za zn zc') := by rw [cell_of_row wa kc _ _ 32 (0, 0) hxc]; rfl
      have HXC := hide hxc
      have HBA := hide hb5a
      have HSET : Hid (∀ W, Below wr.heap.size wr W → (W.cell? ⟨g, j0 * 2, none⟩).isSome = true ∧ (W.cell? ⟨g, j0 * 2 + 1, none⟩).isSome = true ∧ W.frozen? ⟨g, j0 * 2, none⟩ = false ∧ W.frozen? ⟨g, j0 * 2 + 1, none⟩ = false ∧ ((W.setCell ⟨g, j0 * 2, none⟩ (.int .i64 zk)).setCell ⟨g, j0 * 2 + 1, none⟩ (.slice za zn zc')).ownsRow B 32 2 (.slice (some ⟨g, 0, none⟩) n c) n (pz (A ++ Bq.take (m + 1) ++ (zk, za, zn, zc') :: Bq.drop (m + 1))) ∧ w.grownBy ((W.setCell ⟨g, j0 * 2, none⟩ (.int .i64 zk)).setCell ⟨g, j0 * 2 + 1, none⟩ (.slice za zn zc')) (some g)) := fun W hW => by
        have ho := own_later HM.out.1 hW
        have hl : (pz (A ++ Bq.take m ++ x :: Bq.drop m)).length = n * 2 := ho.1
        have q0 := ho.cellAt (j0 * 2) (by omega)
        have q1 := ho.cellAt (j0 * 2 + 1) (by omega)
        refine ⟨by rw [q0, List.getElem?_eq_getElem (by omega)]; rfl, by rw [q1, List.getElem?_eq_getElem (by omega)]; rfl, ho.frozenAt _, ho.frozenAt _, ?_, ?_⟩
        · have := own_pset ho j0 (zk, za, zn, zc') (by rw [pz_len] at hl; omega)
          rw [hj0, ← hz', ds, hz'] at this
          rw [hj0]
          exact this
        · exact HM.out.2.andThen ((grown_later hW).but _ |>.andThen (grown_two' W g _ _ _ _) (fun q e => .inr e)) (fun q e => .inr e)
      have HJ1 := hide hj1
      have HJ0 := hide hj0
      clear hset hkb hne ds de hi HM hxc hb5a hz' hj1 hj0
      go_wp2_with fail
      rw [← hwa, ← hkc]
      clear hwa hkc e1 e2
      refine J.out.mono ?_
      rintro e w5 ⟨rfl, hb5⟩
      have b0 : w5.cell? ⟨kc, 0, none⟩ = some (.int .i64 zk) := (hb5.cell (p := ⟨kc, 0, none⟩) (lt_of_block HXC.out)).trans a0
      have b1 : w5.cell? ⟨kc, 1, none⟩ = some (.slice za zn zc') := (hb5.cell (p := ⟨kc, 1, none⟩) (lt_of_block HXC.out)).trans a1
      obtain ⟨s0, s1, s2, s3, s4, s5⟩ := HSET.out w5 (below_on HBA.out hb5)
      obtain ⟨u0, s0⟩ := Option.isSome_iff_exists.1 s0
      obtain ⟨u1, s1⟩ := Option.isSome_iff_exists.1 s1
      have HE : Hid (((w5.setCell ⟨g, j0 * 2, none⟩ (.int .i64 zk)).setCell ⟨g, j0 * 2 + 1, none⟩ (.slice za zn zc')).ownsRow B 32 2 (.slice (some ⟨g, 0, none⟩) n c) n (pz (A ++ Bq.take (m + 1) ++ (zk, za, zn, zc') :: Bq.drop (m + 1))) ∧ w.grownBy ((w5.setCell ⟨g, j0 * 2, none⟩ (.int .i64 zk)).setCell ⟨g, j0 * 2 + 1, none⟩ (.slice za zn zc')) (some g)) := ⟨s4, s5⟩
      clear s4 s5 HSET J a0 a1 hb5
      go_wp2_with fail
      go_roundw
      case rel => exact ⟨m + 1, (zk, za, zn, zc'), by omega, rfl, rfl, HE⟩
      case measure => have := HJ1.out; simp only [intOf]; omega
    · have hmn : m = Bq.length := by omega
      have t1 : ¬ ((al + 1 + m : Nat) : Int) < (n : Int) := by have := HN.out; have := HAL.out; omega
      have hho := HM.out.1
      rw [hmn, List.take_length, List.drop_length] at hho
      obtain ⟨j0, hj0⟩ : ∃ j, j = al + m := ⟨_, rfl⟩
      have hjn : j0 + 1 = n := by have := HN.out; have := HAL.out; omega
      have hl : (pz (A ++ Bq ++ [x])).length = n * 2 := hho.1
      have q0 := hho.cellAt (j0 * 2) (by omega)
      have q1 := hho.cellAt (j0 * 2 + 1) (by omega)
      have s0 : (wr.cell? ⟨g, j0 * 2, none⟩).isSome = true := by rw [q0, List.getElem?_eq_getElem (by omega)]; rfl
      have s1 : (wr.cell? ⟨g, j0 * 2 + 1, none⟩).isSome = true := by rw [q1, List.getElem?_eq_getElem (by omega)]; rfl
      have hcl := clear_part wr 0 g (j0 * 2) (c - j0) s0 s1 (hho.frozenAt _) (hho.frozenAt _)
      have hpz : (((pz (A ++ Bq ++ [x])).set (j0 * 2) (.int .i64 0)).set (j0 * 2 + 1) (.slice none 0 0)).take (j0 * 2) = pz (A ++ Bq) := by
        have e : j0 = (A ++ Bq).length := by rw [List.length_append]; have := HAL.out; omega
        rw [List.take_set_of_le (by omega), List.take_set_of_le (by omega), pz_take, e, List.take_left' rfl]
      have hset : (wr.setCells g (j0 * 2) [.int .i64 0, .slice none 0 0]).ownsRow B 32 2 (.slice (some ⟨g, 0, none⟩) j0 c) j0 (pz (A ++ Bq)) ∧ w.grownBy (wr.setCells g (j0 * 2) [.int .i64 0, .slice none 0 0]) (some g) := by
        have h2 := ((hho.stored (j0 * 2) (.int .i64 0)).1.stored (j0 * 2 + 1) (.slice none 0 0)).1
        have h3 := own_prefix h2 (n := j0) (by omega)
        rw [hpz] at h3
        exact ⟨h3, HM.out.2.andThen (grown_two' wr g _ _ _ _) (fun q e => .inr e)⟩
      have HE : Hid ((wr.setCells g (j0 * 2) [.int .i64 0, .slice none 0 0]).ownsRow B 32 2 (.slice (some ⟨g, 0, none⟩) j0 c) (A ++ Bq).length (pz (A ++ Bq)) ∧ w.grownBy (wr.setCells g (j0 * 2) [.int .i64 0, .slice none 0 0]) (some g)) := by
        have e : j0 = (A ++ Bq).length := by rw [List.length_append]; have := HAL.out; omega
        rw [← e]
        exact hset
      have hsub : n - j0 = 1 := by omega
      have t3 : ((j0 : Nat) : Int) ≤ (n : Int) := by omega
      have t4 : (0 : Int) ≤ ((j0 : Nat) : Int) := by omega
      have t5 : ((j0 : Nat) : Int) ≤ (c : Int) := by omega
      rw [← hj0]
      clear hho hl q0 q1 s0 s1 hpz hset HM hmn hj0
      go_wp2_with fail
      go_ret
      exact ⟨_, rfl, rfl, by simpa using HE.out.1, HE.out.2⟩
end Go.Proofs.YtafmiolehlagkaaGreat

/-
  World: Remove, where all is well.
-/
namespace Go.Proofs.YtafmiolehlagkaaGreat
open Go.RowKit
set_option maxRecDepth 100000
section
variable {w w' : World} {own : Nat → Nat} {gw gp gm gt M M' : Nat} {vk : Value} {ks : List Kind} {gs fr gs' fr' : List Nat} {f f' : Int × Int → Option Nat} {q q' : Nat → Option Nat} {T T' : Nat → Ts}
/-- Parts in memory of their own are put. -/
theorem pv_put {W W' : World} {own1 : Nat → Nat} {v : Value} {l : List Pt} {R : List (Nat × List Int)} (h1 : W.ownsRow w.heap.size 32 2 v l.length (pz l)) (h2 : Pv w.heap.size W l R) (h3 : Below w.heap.size w W) (hpg : Pg ks l) (hks : ks.length ≤ 12) (hk4 : ∀ x ∈ ks, x.2.length ≤ 4)
    (hX : Wx 0 W' own1 gw vk gp gm gt M ks gs fr f q T) (hK : Wk (rel own w 0) own1 W W') (hw : Wi ks f q T) (a b : Int) (hib : InB (a, b)) (hfn : f (a, b) = none) (hcnt : ∀ E : List (Int × Int), E.Nodup → (∀ e ∈ E, (f e).isSome = true) → E.length < 200) (hM : M ≤ 900000) :
    Calls Tryz.prog 67 #[.pointer (some ⟨gw, 0, none⟩), .agg #[.int .i64 a, .int .i64 b], v] W' fun e w' => e = .returned (.tuple #[]) ∧ ∃ (vals' : List Int) (g : Nat) (own' : Nat → Nat), Wx 0 w' own' gw vk gp gm gt (M + 3) ks gs fr (fun y => if y = (a, b) then some (setOf l) else f y) (fun y => if y = setOf l then some g else q y) (moreT q T (setOf l) (a, b) vals') ∧ Wk own own' w w' ∧ Wi ks (fun y => if y = (a, b) then some (setOf l) else f y) (fun y => if y = setOf l then some g else q y) (moreT q T (setOf l) (a, b) vals') ∧ vals'.length = fsum ks (setOf l) 1 ∧ ∀ r, r ∈ partsL ks (setOf l) 1 vals' ↔ r ∈ R := by
  have hnew : ∀ k, w.heap.size ≤ k → rel own w 0 k = 0 := fun k hk => rel_new hk
  have hm := hK.mv
  have o1 := hm.own h1 (fun k e e2 => e2 (hnew k (h1.lt k e).1))
  have hIzL : ∀ (i : Nat) (i1 : i < l.length) (i2 : i < R.length), Iz W' (ptV l[i]) R[i].2 := fun i i1 i2 => by
    have hb := (h2.2 i i1 i2).2
    exact Iz.own (hm.own hb (fun k e e2 => e2 (hnew k (hb.lt k e).1)))
  have hV : ∀ p ∈ l, Iz W' (ptV p) (valsOf W' (ptV p)) ∧ (p.2.1 = none → p.2.2 = (0, 0)) := fun p hp => by
    obtain ⟨i, hi, rfl⟩ := List.getElem_of_mem hp
    have i2 : i < R.length := by rw [← h2.1]; exact hi
    have := hIzL i hi i2
    refine ⟨by rw [this.vals]; exact this, fun e => ?_⟩
    rcases (h2.2 i hi i2).2.2 with ⟨e', -⟩ | ⟨g, c, cur, e', -⟩
    · simp only [ptV, Value.slice.injEq] at e'
      exact Prod.ext e'.2.1 e'.2.2
    · simp only [ptV, Value.slice.injEq] at e'
      rw [e] at e'
      cases e'.1
  refine (put_parts hX hw hks hk4 a b hib hfn hcnt hM v l (fun p => valsOf W' (ptV p)) (Rp.own o1) hpg hV).mono ?_
  rintro e w' ⟨rfl, vals', g, own', r1, r2, r3, r4, r5⟩
  refine ⟨rfl, vals', g, own', r1, ((Wk.later h3).trans hK).trans r2, r3, r4, fun r => ?_⟩
  rw [r5]
  constructor
  · rintro ⟨p, hp, rfl⟩
    obtain ⟨i, hi, rfl⟩ := List.getElem_of_mem hp
    have i2 : i < R.length := by rw [← h2.1]; exact hi
    rw [(hIzL i hi i2).vals, (h2.2 i hi i2).1]
    exact List.getElem_mem i2
  · intro hr
    obtain ⟨i, hi, rfl⟩ := List.getElem_of_mem hr
    have i1 : i < l.length := by rw [h2.1]; exact hi
    refine ⟨l[i], List.getElem_mem i1, ?_⟩
    rw [(hIzL i i1 hi).vals, (h2.2 i i1 hi).1]
    rfl
/-- One of the parts, and what is left without it. -/
theorem parts_less {B s k : Nat} {W : World} {row : List Int} {L : List Pt} (h : Pv B W L (partsL ks s 1 row)) (hr : row.length = fsum ks s 1) (hsb : Sb ks s) (_hks : ks.length ≤ 12) (hk1 : 1 ≤ k) (hk2 : k ≤ ks.length) (hb : s.testBit k = true) :
    ∃ (A Bq : List Pt) (p : Pt) (R : List (Nat × List Int)), L = A ++ p :: Bq ∧ (∀ x ∈ A, x.1 ≠ (k : Int)) ∧ (∀ x ∈ Bq, x.1 ≠ (k : Int)) ∧ p.1 = (k : Int) ∧ (∀ W', (∀ i (h1 : i < L.length) (h2 : i < (partsL ks s 1 row).length), W'.ownsRow B 2 1 (ptV L[i]) (partsL ks s 1 row)[i].2.length (zc (partsL ks s 1 row)[i].2)) → Pv B W' (A ++ Bq) R) ∧ (∀ r, r ∈ R ↔ r ∈ partsL ks s 1 row ∧ r.1 ≠ k) ∧ Pg ks (A ++ Bq) ∧ setOf (A ++ Bq) = s ^^^ 2 ^ k := by
  obtain ⟨r0, hr0, hrk⟩ := partsL_all ks s 1 row k hk1 (by omega) hb
  obtain ⟨i, hi, rfl⟩ := List.getElem_of_mem hr0
  have hpair := List.pairwise_iff_getElem.1 (partsL_pair ks s 1 row)
  have hlen := h.1
  have hiL : i < L.length := by omega
  have hkind : ∀ j (h1 : j < L.length) (h2 : j < (partsL ks s 1 row).length), L[j].1 = ((partsL ks s 1 row)[j].1 : Int) := fun j h1 h2 => (h.2 j h1 h2).1
  have hne : ∀ j (h1 : j < L.length), j ≠ i → L[j].1 ≠ (k : Int) := fun j h1 hji e => by
    have h2 : j < (partsL ks s 1 row).length := by omega
    rw [hkind j h1 h2] at e
    have e2 : (partsL ks s 1 row)[j].1 = (partsL ks s 1 row)[i].1 := by omega
    rcases Nat.lt_or_gt_of_ne hji with c | c
    · have := hpair j i h2 hi c; omega
    · have := hpair i j hi h2 c; omega
  have hsplit : L = L.take i ++ L[i] :: L.drop (i + 1) := by rw [List.getElem_cons_drop, List.take_append_drop]
  have hRs : partsL ks s 1 row = (partsL ks s 1 row).take i ++ (partsL ks s 1 row)[i] :: (partsL ks s 1 row).drop (i + 1) := by rw [List.getElem_cons_drop, List.take_append_drop]
  have hti : (L.take i).length = i := by rw [List.length_take]; omega
  have htR : ((partsL ks s 1 row).take i).length = i := by rw [List.length_take]; omega
  have hmemR : ∀ r, r ∈ (partsL ks s 1 row).take i ++ (partsL ks s 1 row).drop (i + 1) ↔ r ∈ partsL ks s 1 row ∧ r.1 ≠ k := fun r => by
    have hxk : ∀ x ∈ (partsL ks s 1 row).take i ++ (partsL ks s 1 row).drop (i + 1), x.1 ≠ k := fun x hx e => by
      rcases List.mem_append.1 hx with hx | hx
      · obtain ⟨j, hj, rfl⟩ := List.getElem_of_mem hx
        rw [htR] at hj
        rw [List.getElem_take] at e
        have := hpair j i (by omega) hi hj
        omega
      · obtain ⟨j, hj, rfl⟩ := List.getElem_of_mem hx
        rw [List.length_drop] at hj
        rw [List.getElem_drop] at e
        have := hpair i (i + 1 + j) hi (by omega) (by omega)
        omega
    constructor
    · intro hx
      refine ⟨?_, hxk r hx⟩
      rw [hRs]
      rcases List.mem_append.1 hx with hx | hx
      · exact List.mem_append_left _ hx
      · exact List.mem_append_right _ (List.mem_cons_of_mem _ hx)
    · rintro ⟨hx, hk⟩
      rw [hRs] at hx
      rcases List.mem_append.1 hx with hx | hx
      · exact List.mem_append_left _ hx
      · rcases List.mem_cons.1 hx with rfl | hx
        · exact absurd hrk hk
        · exact List.mem_append_right _ hx
  have hmemL : ∀ x ∈ L.take i ++ L.drop (i + 1), ∃ j, ∃ (h1 : j < L.length), L[j] = x ∧ j ≠ i := fun x hx => by
    rcases List.mem_append.1 hx with hx | hx
    · obtain ⟨j, hj, rfl⟩ := List.getElem_of_mem hx
      rw [hti] at hj
      exact ⟨j, by omega, by rw [List.getElem_take], by omega⟩
    · obtain ⟨j, hj, rfl⟩ := List.getElem_of_mem hx
      rw [List.length_drop] at hj
      exact ⟨i + 1 + j, by omega, by rw [List.getElem_drop], by omega⟩
  have hpv : ∀ W', (∀ i (h1 : i < L.length) (h2 : i < (partsL ks s 1 row).length), W'.ownsRow B 2 1 (ptV L[i]) (partsL ks s 1 row)[i].2.length (zc (partsL ks s 1 row)[i].2)) → Pv B W' (L.take i ++ L.drop (i + 1)) ((partsL ks s 1 row).take i ++ (partsL ks s 1 row).drop (i + 1)) := fun W' hW => by
    refine ⟨by simp [hlen], fun j j1 j2 => ?_⟩
    by_cases c : j < i
    · rw [List.getElem_append_left (by omega), List.getElem_append_left (by omega)]
      simp only [List.getElem_take]
      exact ⟨hkind j (by omega) (by omega), hW j (by omega) (by omega)⟩
    · rw [List.length_append, hti, List.length_drop] at j1
      rw [List.getElem_append_right (by omega), List.getElem_append_right (by omega)]
      simp only [List.getElem_drop, hti, htR]
      exact ⟨hkind _ (by omega) (by omega), hW _ (by omega) (by omega)⟩
  refine ⟨L.take i, L.drop (i + 1), L[i], _, hsplit, fun x hx e => ?_, fun x hx e => ?_, by rw [hkind i hiL hi, hrk], hpv, hmemR, ?_, ?_⟩
  · obtain ⟨j, j1, rfl, j3⟩ := hmemL x (List.mem_append_left _ hx)
    exact hne j j1 j3 e
  · obtain ⟨j, j1, rfl, j3⟩ := hmemL x (List.mem_append_right _ hx)
    exact hne j j1 j3 e
  · have hv := hpv W (fun i h1 h2 => (h.2 i h1 h2).2)
    have hln : ∀ x ∈ L.take i ++ L.drop (i + 1), ∃ r ∈ partsL ks s 1 row, x.1 = (r.1 : Int) ∧ x.2.2.1 = r.2.length := fun x hx => by
      obtain ⟨j, j1, rfl, j3⟩ := hmemL x hx
      refine ⟨_, List.getElem_mem (by omega : j < (partsL ks s 1 row).length), hkind j j1 (by omega), ?_⟩
      obtain ⟨ao, c, e⟩ := own_len (h.2 j j1 (by omega)).2
      simp only [ptV, Value.slice.injEq] at e
      exact e.2.1
    refine ⟨fun x hx => ?_, ?_⟩
    · obtain ⟨r, hr', e1, e2⟩ := hln x hx
      have m1 := partsL_mem ks s 1 row r hr'
      have m2 := partsL_len ks s 1 row hr r hr'
      refine ⟨by omega, by omega, ?_⟩
      rw [e2, m2, e1]
      simp
    · have hm : L.map (fun p => p.1.toNat - 1) = (partsL ks s 1 row).map (fun r => r.1 - 1) := by
        refine List.ext_getElem (by simp [hlen]) (fun j j1 j2 => ?_)
        simp only [List.length_map] at j1 j2
        simp only [List.getElem_map]
        rw [hkind j j1 j2]
        simp
      have hn : (L.map (fun p => p.1.toNat - 1)).Nodup := by
        rw [hm]
        refine List.pairwise_map.2 (List.Pairwise.imp_of_mem (fun {x y} hx hy hlt => ?_) (partsL_pair ks s 1 row))
        have a1 := partsL_mem ks s 1 row x hx
        have a2 := partsL_mem ks s 1 row y hy
        omega
      have hsub : (L.take i ++ L.drop (i + 1)).Sublist L := by
        conv => rhs; rw [hsplit]
        exact List.Sublist.append (List.Sublist.refl _) (List.sublist_cons_self _ _)
      exact hn.sublist (hsub.map _)
  · refine Nat.eq_of_testBit_eq (fun j => ?_)
    rw [setOf_bit, Nat.testBit_xor, Nat.testBit_two_pow, Bool.eq_iff_iff]
    have h1 : ((L.take i ++ L.drop (i + 1)).any fun p => p.1.toNat == j) = true ↔ s.testBit j = true ∧ j ≠ k := by
      rw [List.any_eq_true]
      constructor
      · rintro ⟨x, hx, e⟩
        obtain ⟨m, m1, rfl, m3⟩ := hmemL x hx
        have hk' := hkind m m1 (by omega)
        have e' := beq_iff_eq.1 e
        have e2 : (partsL ks s 1 row)[m].1 = j := by omega
        refine ⟨by rw [← e2]; exact (partsL_mem ks s 1 row _ (List.getElem_mem _)).2.2, fun e3 => hne m m1 m3 (by omega)⟩
      · rintro ⟨hj, hjk⟩
        have := hsb j hj
        obtain ⟨r, hr', e⟩ := partsL_all ks s 1 row j this.1 (by omega) hj
        obtain ⟨m, m1, rfl⟩ := List.getElem_of_mem hr'
        have hm1 : m < L.length := by omega
        have hmi : m ≠ i := fun e' => by subst e'; omega
        refine ⟨L[m], ?_, by rw [hkind m hm1 m1, e]; simp⟩
        rcases Nat.lt_or_gt_of_ne hmi with c | c
        · refine List.mem_append_left _ ?_
          have := List.getElem_mem (l := L.take i) (n := m) (by omega)
          rwa [List.getElem_take] at this
        · refine List.mem_append_right _ ?_
          have := List.getElem_mem (l := L.drop (i + 1)) (n := m - (i + 1)) (by rw [List.length_drop]; omega)
          rw [List.getElem_drop] at this
          have e' : i + 1 + (m - (i + 1)) = m := by omega
          simpa only [e'] using this
    rw [h1]
    by_cases c : k = j
    · subst c
      simp [hb]
    · have : ¬ j = k := fun e => c e.symm
      simp [c, this]
end
end Go.Proofs.YtafmiolehlagkaaGreat

/-
  World: where a part lies.
-/
namespace Go.Proofs.YtafmiolehlagkaaGreat
open Go.RowKit
set_option maxRecDepth 100000
theorem fsum_append : ∀ (a b : List Kind) (s k : Nat), fsum (a ++ b) s k = fsum a s k + fsum b s (k + a.length)
  | [], b, s, k => by simp [fsum]
  | x :: t, b, s, k => by
    rw [List.cons_append]
    simp only [fsum, List.length_cons]
    rw [fsum_append t b s (k + 1), show k + 1 + t.length = k + (t.length + 1) by omega]
    omega
theorem fsum_take (ks : List Kind) (s j : Nat) (hj : j < ks.length) : fsum (ks.take (j + 1)) s 1 = fsum (ks.take j) s 1 + (if s.testBit (j + 1) then ks[j].2.length else 0) := by
  rw [List.take_succ_eq_append_getElem hj, fsum_append]
  have : (ks.take j).length = j := by rw [List.length_take]; omega
  rw [this, show 1 + j = j + 1 by omega]
  simp [fsum]
theorem fsum_take_le (ks : List Kind) (s j : Nat) : fsum (ks.take j) s 1 ≤ fsum ks s 1 := by
  have h := fsum_append (ks.take j) (ks.drop j) s 1
  rw [List.take_append_drop] at h
  omega
section
variable {w w' : World} {own : Nat → Nat} {gw gp gm gt M M' : Nat} {vk : Value} {ks : List Kind} {gs fr gs' fr' : List Nat} {f f' : Int × Int → Option Nat} {q q' : Nat → Option Nat} {T T' : Nat → Ts}
set_option maxHeartbeats 8000000 in
theorem place_any (h : Wx 0 w own gw vk gp gm gt M ks gs fr f q T) (a b : Int) (hib : InB (a, b)) (hks : ks.length ≤ 12) (s g i : Nat) (hf : f (a, b) = some s) (hq : q s = some g) (hs : s < 8192) (hi : i < (T s).1.length) (hx : (T s).1[i] = (a, b)) (h48 : fsum ks s 1 ≤ 48) (k : Nat) (hk1 : 1 ≤ k) (hk2 : k ≤ ks.length) :
    Calls Tryz.prog 88 #[.pointer (some ⟨gw, 0, none⟩), .agg #[.int .i64 a, .int .i64 b], .int .i64 (k : Int)] w fun e w' => e = .returned (.tuple #[.pointer (some ⟨g, 0, none⟩), .int .i64 (i : Int), .int .i64 ((fsum (ks.take (k - 1)) s 1 : Nat) : Int)]) ∧ Below w.heap.size w w' := by
  obtain ⟨w1, hw1⟩ : ∃ X, X = w.alloc (.cells #[.int .i64 a, .int .i64 b] 29) := ⟨_, rfl⟩
  have B1 : Hid (Below w.heap.size w w1) := hw1 ▸ below_alloc w _
  have hx1 : w1.heap[w.heap.size]? = some (.cells #[.int .i64 a, .int .i64 b] 29 (0, 0)) := by rw [hw1]; exact heap_alloc_new w _
  have HW : Hid (∀ W, Below w1.heap.size w1 W → (Instr.lookup 106 (.map (some gm)) (.agg #[.int .i64 a, .int .i64 b]) false).run Tryz.prog W = .ok (.int .i64 (s : Int)) W ∧ (Instr.lookup 107 (.map (some gt)) (.int .i64 (s : Int)) false).run Tryz.prog W = .ok (.pointer (some ⟨g, 0, none⟩)) W ∧ W.cell? ⟨gw, 2, none⟩ = some (.map (some gm)) ∧ W.cell? ⟨gw, 3, none⟩ = some (.map (some gt)) ∧ W.cell? ⟨w.heap.size, 0, none⟩ = some (.int .i64 a) ∧ W.cell? ⟨w.heap.size, 1, none⟩ = some (.int .i64 b)) := fun W hW => by
    have hx := h.later (below_on B1.out hW)
    exact ⟨hx.mp.look1 a b hib hf, hx.mq.look1 (by omega) hq, hx.cells.2.2.1, hx.cells.2.2.2, (kx_cells hx1 hW).1, (kx_cells hx1 hW).2⟩
  have JF : Hid (∀ W, Below w1.heap.size w1 W → Calls Tryz.prog 150 #[.pointer (some ⟨g, 0, none⟩), .agg #[.int .i64 a, .int .i64 b]] W fun e w' => e = .returned (.int .i64 (i : Int)) ∧ Below W.heap.size W w') := fun W hW => by
    obtain ⟨n, hn, ht⟩ := (h.later (below_on B1.out hW)).tb hq
    refine (find_any ht a b hib).mono ?_
    rintro e w' ⟨r, rfl, hr, hb2⟩
    have hr2 : r = (i : Int) := by
      rcases hr with ⟨-, hr⟩ | ⟨j, hj, rfl, hr⟩
      · exact absurd (hx ▸ List.getElem_mem hi) hr
      · obtain ⟨lab, vr, gm', vc, cs, f', hm, hix, -⟩ := ht
        rw [hix.inj hj hi (hr.trans hx.symm)]
    exact ⟨ret_int hr2, hb2⟩
  have JFd : Hid (∀ (W : World) (j : Nat) (_ : Below w1.heap.size w1 W) (h1 : 1 ≤ j) (h2 : j ≤ ks.length), Calls Tryz.prog 89 #[.pointer (some ⟨gw, 0, none⟩), .int .i64 (j : Int)] W fun e w' => e = .returned (.int .i64 ((ks[j - 1]'(by omega)).2.length : Int)) ∧ w' = W) := fun W j hW h1 h2 => by
    have hx := h.later (below_on B1.out hW)
    exact fields_any hx.2.2.1 hx.2.2.2.1.kr j h1 h2 hks
  clear h hf hq hi hx hx1 hib
  go_enter Tryz.func88, Tryz.ntmps88
  go_upto_region 1 with fail
  rw [← hw1]
  obtain ⟨kx, hkx⟩ : ∃ k, k = w.heap.size := ⟨_, rfl⟩
  rw [← hkx] at HW ⊢
  clear hkx hw1
  obtain ⟨hlk, -, c2, c3, p0, p1⟩ := HW.out w1.drew (below_drew w1)
  refine wp_region_noPanic ?_
  refine wp_region_late (J := fun i => i != 99) (S := fun W => W.cell? ⟨gw, 2, none⟩ = some (.map (some gm)) ∧ W.cell? ⟨kx, 0, none⟩ = some (.int .i64 a) ∧ W.cell? ⟨kx, 1, none⟩ = some (.int .i64 b)) (by kernel_rfl) ⟨c2, p0, p1⟩ (fun hHeld => ?_)
  refine' wpAnyJ_takeW (i := 0) (oi := { dst := some 11, op := Op.move (Operand.tmp 0), type := 37, pos := "world.go:183", after := #[], guard := none }) (v := _) rfl (by kernel_rfl) (by kernel_rfl) (by kernel_rfl) (fun _ _ _ h => h) (Or.inl ⟨by rfl, ?hyA1⟩) ?reA1
  case hyA1 => (intro W hSw; (try dsimp only at hSw); go_simp; try with_reducible rfl)
  try simp only [Act.put, List.setIfInBounds_toArray, List.set_cons_zero, List.set_cons_succ]
  refine' wpAnyJ_takeW (i := 1) (oi := { dst := some 12, op := Op.nilCheck (Operand.tmp 11), type := 0, pos := "world.go:183", after := #[{ on := 0, ground := Ground.data }], guard := none }) (v := _) rfl (by kernel_rfl) (by kernel_rfl) (by kernel_rfl) (fun _ _ _ h => h) (Or.inl ⟨by rfl, ?hyA2⟩) ?reA2
  case hyA2 => (intro W hSw; (try dsimp only at hSw); go_simp; try with_reducible rfl)
  try simp only [Act.put, List.setIfInBounds_toArray, List.set_cons_zero, List.set_cons_succ]
  refine' wpAnyJ_takeW (i := 2) (oi := { dst := some 13, op := Op.fieldAddr 109 (Operand.tmp 12) 2, type := 0, pos := "world.go:183", after := #[{ on := 1, ground := Ground.data }], guard := none }) (v := _) rfl (by kernel_rfl) (by kernel_rfl) (by kernel_rfl) (fun _ _ _ h => h) (Or.inl ⟨by rfl, ?hyA3⟩) ?reA3
  case hyA3 => (intro W hSw; (try dsimp only at hSw); go_simp; try with_reducible rfl)
  try simp only [Act.put, List.setIfInBounds_toArray, List.set_cons_zero, List.set_cons_succ]
  refine' wpAnyJ_take (i := 3) (oi := { dst := some 14, op := Op.load 106 (Operand.tmp 13), type := 106, pos := "world.go:183", after := #[{ on := 2, ground := Ground.data }], guard := none }) (v := _) rfl (by kernel_rfl) (by kernel_rfl) (by kernel_rfl) (by kernel_rfl) (fun _ _ _ h => h) (Or.inl ⟨by rfl, ?hyA4⟩) (by assumption) ?reA4
  case hyA4 => (intro W hSw; (try dsimp only at hSw); go_simp; try with_reducible rfl)
  try simp only [Act.put, List.setIfInBounds_toArray, List.set_cons_zero, List.set_cons_succ]
  refine' wpAnyJ_take (i := 4) (oi := { dst := some 15, op := Op.load 29 (Operand.tmp 4), type := 29, pos := "world.go:183", after := #[], guard := none }) (v := _) rfl (by kernel_rfl) (by kernel_rfl) (by kernel_rfl) (by kernel_rfl) (fun _ _ _ h => h) (Or.inl ⟨by rfl, ?hyA5⟩) (by assumption) ?reA5
  case hyA5 => (intro W hSw; (try dsimp only at hSw); go_simp; try with_reducible rfl)
  try simp only [Act.put, List.setIfInBounds_toArray, List.set_cons_zero, List.set_cons_succ]
  refine wpAnyJ_ready (rs := [5]) (by kernel_rfl) (by simp) ?_
  refine AllReadyJ.cons (o := { dst := some 16, op := Op.lookup 106 (Operand.tmp 14) (Operand.tmp 15) false, type := 3, pos := "world.go:183", after := #[{ on := 3, ground := Ground.data }, { on := 4, ground := Ground.data }], guard := none }) rfl (fun K hK => ?_) AllReadyJ.nil
  go_simp
  refine hK.out _ _ (fun _ _ => ⟨c2, p0, p1⟩) ?_
  clear hK K
  try simp only [Act.put, List.setIfInBounds_toArray, List.set_cons_zero, List.set_cons_succ]
  refine' wpAnyJ_takeW (i := 6) (oi := { dst := some 9, op := Op.assign (Operand.tmp 16), type := 3, pos := "world.go:183", after := #[{ on := 5, ground := Ground.data }, { on := 0, ground := Ground.phase }, { on := 1, ground := Ground.phase }, { on := 2, ground := Ground.phase }, { on := 3, ground := Ground.phase }, { on := 4, ground := Ground.phase }, { on := 5, ground := Ground.phase }], guard := none }) (v := _) rfl (by kernel_rfl) (by kernel_rfl) (by kernel_rfl) (fun _ _ _ h => h) (Or.inl ⟨by rfl, ?hyA6⟩) ?reA6
  case hyA6 => (intro W hSw; (try dsimp only at hSw); go_simp; try with_reducible rfl)
  try simp only [Act.put, List.setIfInBounds_toArray, List.set_cons_zero, List.set_cons_succ]
  refine wpAnyJ_done (by kernel_rfl) ?_ _
  refine NoPanic.normal ?_
  clear hlk c2 c3 p0 p1
  have B2 : Hid (Below w1.heap.size w1 w1.drew) := below_drew w1
  go_wp2_with fail
  go_loopw [8, 10] (fun v8 v10 W => ∃ j : Nat, j ≤ k - 1 ∧ v10 = .int .i64 ((j + 1 : Nat) : Int) ∧ v8 = .int .i64 ((fsum (ks.take j) s 1 : Nat) : Int) ∧ Hid (Below w1.heap.size w1 W)) (fun _ v10 _ => k - (intOf v10).toNat)
  case atStart => exact ⟨0, Nat.zero_le _, rfl, rfl, B2⟩
  case round =>
    obtain ⟨j, hjk, rfl, rfl, HB⟩ := hrel
    obtain ⟨F, hF⟩ : ∃ F, F = fsum (ks.take j) s 1 := ⟨_, rfl⟩
    have hFl : F ≤ 48 := by rw [hF]; exact Nat.le_trans (fsum_take_le ks s j) h48
    by_cases hlt : j < k - 1
    · have t1 : ((j + 1 : Nat) : Int) < (k : Int) := by omega
      have hst := fsum_take ks s j (by omega)
      rw [← hF] at hst ⊢
      have hst2 : fsum (ks.take (j + 1)) s 1 ≤ 48 := Nat.le_trans (fsum_take_le ks s (j + 1)) h48
      have JH := hide (has_any s (j + 1) wr hs (by omega))
      have JD := hide (JFd.out wr (j + 1) HB.out (by omega) (by omega))
      simp only [Nat.add_sub_cancel] at JD
      generalize (ks[j]'(by omega)).2.length = m at *
      obtain ⟨K, hK⟩ : ∃ K : Int, K = ((j + 1 : Nat) : Int) := ⟨_, rfl⟩
      have t3 : IntKind.i64.wrap (K + 1) = ((j + 1 + 1 : Nat) : Int) := by rw [IntKind.wrap_i64]; omega
      rw [← hK] at t1 JH JD ⊢
      have HST := hide hst
      have HST2 := hide hst2
      have HKK := hide hK
      clear hst hst2 hK hF
      cases hbt : s.testBit (j + 1) with
      | false =>
        rw [hbt] at JH HST
        clear hbt JD
        go_wp2_with fail
        refine JH.out.mono ?_
        rintro e w' ⟨rfl, rfl⟩
        go_wp2_with fail
        go_roundw
        case rel => exact ⟨j + 1, by omega, rfl, by rw [HST.out]; simp, HB⟩
        case measure => have := HKK.out; simp only [intOf]; omega
      | true =>
        rw [hbt] at JH HST
        clear hbt
        have hs2 := HST.out
        simp only [if_true] at hs2
        have t4 : IntKind.i64.wrap ((F : Int) + (m : Int)) = ((fsum (ks.take (j + 1)) s 1 : Nat) : Int) := by rw [IntKind.wrap_i64]; have := HST2.out; omega
        clear hs2
        go_wp2_with fail
        refine JH.out.mono ?_
        rintro e w' ⟨rfl, rfl⟩
        go_wp2_with fail
        refine JD.out.mono ?_
        rintro e w' ⟨rfl, rfl⟩
        go_wp2_with fail
        go_roundw
        case rel => exact ⟨j + 1, by omega, rfl, rfl, HB⟩
        case measure => have := HKK.out; simp only [intOf]; omega
    · obtain rfl : j = k - 1 := by omega
      have t1 : ¬ ((k - 1 + 1 : Nat) : Int) < (k : Int) := by omega
      obtain ⟨-, hlq, c2, c3, p0, p1⟩ := HW.out wr HB.out
      have J := hide (JF.out wr HB.out)
      rw [← hF]
      have HFF := hide hF
      clear hF
      go_wp2_with fail
      refine J.out.mono ?_
      rintro e w9 ⟨rfl, hb9⟩
      have HB9 := hide (below_on B1.out (below_on HB.out hb9))
      clear hb9 J
      go_wp2_with fail
      go_ret3
      exact ⟨by rw [← HFF.out]; rfl, HB9.out⟩
end
end Go.Proofs.YtafmiolehlagkaaGreat

/-
  World: Set, where all is well.
-/
namespace Go.Proofs.YtafmiolehlagkaaGreat
open Go.RowKit
set_option maxRecDepth 100000
/-- Columns of which j, from col on, have the first numbers of vals at row i. -/
def setC (cols : List (List Int)) (col i : Nat) (vals : List Int) : Nat → List (List Int)
  | 0 => cols
  | j + 1 => (setC cols col i vals j).set (col + j) (((setC cols col i vals j).getD (col + j) []).set i (vals.getD j 0))
theorem setC_len (cols : List (List Int)) (col i : Nat) (vals : List Int) : ∀ j, (setC cols col i vals j).length = cols.length
  | 0 => rfl
  | j + 1 => by simp [setC, setC_len cols col i vals j]
theorem setC_at (cols : List (List Int)) (col i : Nat) (vals : List Int) : ∀ (j m : Nat), col + j ≤ cols.length → m < cols.length → (setC cols col i vals j).getD m [] = if col ≤ m ∧ m < col + j then (cols.getD m []).set i (vals.getD (m - col) 0) else cols.getD m []
  | 0, m, _, _ => by
    rw [if_neg (by omega)]
    rfl
  | j + 1, m, h1, h2 => by
    have hl := setC_len cols col i vals j
    have ih := fun m h => setC_at cols col i vals j m (by omega) h
    rw [setC, List.getD_eq_getElem?_getD, List.getElem?_set]
    by_cases c : col + j = m
    · subst c
      rw [if_pos rfl, if_pos (by omega), ih _ h2, if_neg (by omega), if_pos (by omega), Option.getD_some, show col + j - col = j by omega]
    · rw [if_neg c, ← List.getD_eq_getElem?_getD, ih m h2]
      by_cases d : col ≤ m ∧ m < col + j
      · rw [if_pos d, if_pos (by omega)]
      · rw [if_neg d, if_neg (by omega)]
theorem getD_getElem {α : Type} (l : List α) (d : α) (i : Nat) (h : i < l.length) : l.getD i d = l[i] := by
  rw [List.getD_eq_getElem?_getD, List.getElem?_eq_getElem h]
  rfl
theorem setC_cols {cols : List (List Int)} {col i n : Nat} {vals : List Int} {N : Nat} (hc : ∀ c ∈ cols, c.length = N) (hn : col + n ≤ cols.length) : ∀ c ∈ setC cols col i vals n, c.length = N := fun c hm => by
  obtain ⟨m, hm1, rfl⟩ := List.getElem_of_mem hm
  have hm2 := hm1
  rw [setC_len] at hm2
  rw [← getD_getElem _ [] m hm1, setC_at _ _ _ _ _ _ hn hm2, getD_getElem _ _ _ hm2]
  have := hc _ (List.getElem_mem hm2)
  split
  · rw [List.length_set]; exact this
  · exact this
theorem row_setC_other {cols : List (List Int)} {col i n j : Nat} {vals : List Int} (hn : col + n ≤ cols.length) (hj : j ≠ i) : rowOf (setC cols col i vals n) j = rowOf cols j := by
  refine row_ext (setC_len _ _ _ _ _) (fun m m1 m2 => ?_)
  rw [← getD_getElem _ [] m m1, setC_at _ _ _ _ _ _ hn m2, getD_getElem _ _ _ m2]
  split
  · rw [List.getD_eq_getElem?_getD, List.getElem?_set_ne (Ne.symm hj), ← List.getD_eq_getElem?_getD]
  · rfl
theorem row_setC_self {cols : List (List Int)} {col i n N : Nat} {vals : List Int} (hc : ∀ c ∈ cols, c.length = N) (hi : i < N) (hn : col + n ≤ cols.length) (hv : vals.length = n) : rowOf (setC cols col i vals n) i = (rowOf cols i).take col ++ vals ++ (rowOf cols i).drop (col + n) := by
  refine List.ext_getElem (by simp [rowOf_len, setC_len, hv]; omega) (fun m m1 m2 => ?_)
  rw [rowOf_len, setC_len] at m1
  have hm1 : m < (setC cols col i vals n).length := by rw [setC_len]; exact m1
  have hl := hc _ (List.getElem_mem m1)
  have e1 : (rowOf (setC cols col i vals n) i)[m]'(by rw [rowOf_len]; exact hm1) = ((setC cols col i vals n).getD m []).getD i 0 := by
    rw [getD_getElem _ [] m hm1]
    simp [rowOf]
  have e2 : ∀ (h : m < (rowOf cols i).length), (rowOf cols i)[m] = cols[m].getD i 0 := fun h => by simp [rowOf]
  rw [e1, setC_at _ _ _ _ _ _ hn m1, getD_getElem _ _ _ m1]
  by_cases d : col ≤ m ∧ m < col + n
  · rw [if_pos d]
    have ht : ((rowOf cols i).take col).length = col := by rw [List.length_take, rowOf_len]; omega
    rw [List.getElem_append_left (by rw [List.length_append, ht]; omega), List.getElem_append_right (by omega)]
    rw [List.getD_eq_getElem?_getD, List.getElem?_set_self (by omega), Option.getD_some]
    simp only [ht]
    rw [getD_getElem _ _ _ (by omega)]
  · rw [if_neg d]
    have ht : ((rowOf cols i).take col).length = col := by rw [List.length_take, rowOf_len]; omega
    by_cases c : m < col
    · rw [List.getElem_append_left (by rw [List.length_append, ht]; omega), List.getElem_append_left (by omega), List.getElem_take, e2]
    · rw [List.getElem_append_right (by rw [List.length_append, ht]; omega), List.getElem_drop]
      simp only [List.length_append, ht, hv]
      have : col + n + (m - (col + n)) = m := by omega
      simp only [this]
      rw [e2]
end Go.Proofs.YtafmiolehlagkaaGreat

/-
  World: Set's walk.
-/
namespace Go.Proofs.YtafmiolehlagkaaGreat
open Go.RowKit
set_option maxRecDepth 100000
section
variable {w w' : World} {own : Nat → Nat} {gw gp gm gt M M' N : Nat} {vk : Value} {ks : List Kind} {gs fr gs' fr' : List Nat} {f f' : Int × Int → Option Nat} {q q' : Nat → Option Nat} {T T' : Nat → Ts} {C : Co}
def setT (T : Nat → Ts) (s col i : Nat) (vals : List Int) (j : Nat) : Nat → Ts := fun x => if x = s then ((T s).1, setC (T s).2 col i vals j) else T x
/-- One number more is set. -/
theorem set_one {W : World} {s g col i j : Nat} {vals : List Int} (h : Wx 0 W own gw vk gp gm gt M ks gs fr f q (setT T s col i vals j)) (hq : q s = some g) (hi : i < (T s).1.length) (hj : col + j < (T s).2.length) :
    Calls Tryz.prog 91 #[.pointer (some ⟨g, 0, none⟩), .int .i64 (i : Int), .int .i64 ((col + j : Nat) : Int), .int .i64 (vals.getD j 0)] W fun e w' => e = .returned (.int .i64 0) ∧ ∃ own', Wx 0 w' own' gw vk gp gm gt M ks gs fr f q (setT T s col i vals (j + 1)) ∧ Wk own own' W w' := by
  obtain ⟨n, hn, ht⟩ := h.tb hq
  have e1 : setT T s col i vals j s = ((T s).1, setC (T s).2 col i vals j) := if_pos rfl
  rw [e1] at ht
  have hl : col + j < (setC (T s).2 col i vals j).length := by rw [setC_len]; exact hj
  refine (set_any ht i (col + j) (vals.getD j 0) hi hl).mono ?_
  rintro e w' ⟨rfl, t1, t2⟩
  have hT : (setC (T s).2 col i vals j).set (col + j) ((setC (T s).2 col i vals j)[col + j].set i (vals.getD j 0)) = setC (T s).2 col i vals (j + 1) := by
    rw [setC, getD_getElem _ _ _ hl]
  rw [hT] at t1
  have hx := h.table t2 hq (t := ((T s).1, setC (T s).2 col i vals (j + 1))) (M' := M) ⟨n, hn, t1.mono (fun k e => .inl e)⟩ (Nat.le_refl _)
  have hTT : (fun x => if x = s then ((T s).1, setC (T s).2 col i vals (j + 1)) else setT T s col i vals j x) = setT T s col i vals (j + 1) := by
    funext x
    unfold setT
    by_cases c : x = s
    · rw [if_pos c, if_pos c]
    · rw [if_neg c, if_neg c, if_neg c]
  rw [hTT] at hx
  exact ⟨rfl, _, hx, Wk.of t2 (fun k _ e => by have := e.2; omega)⟩
theorem setT_zero (T : Nat → Ts) (s col i : Nat) (vals : List Int) : setT T s col i vals 0 = T := by
  funext x
  unfold setT
  by_cases c : x = s
  · rw [if_pos c, c]
    rfl
  · rw [if_neg c]
set_option maxHeartbeats 8000000 in
theorem wset_any (h : Wx 0 w own gw vk gp gm gt M ks gs fr f q T) (hw : Wi ks f q T) (a b : Int) (hib : InB (a, b)) (hks : ks.length ≤ 12) (hk4 : ∀ x ∈ ks, x.2.length ≤ 4) (s g i : Nat) (hf : f (a, b) = some s) (hq : q s = some g) (hi : i < (T s).1.length) (hx : (T s).1[i] = (a, b)) (k : Nat) (hk1 : 1 ≤ k) (hk2 : k ≤ ks.length) (hbit : s.testBit k = true)
    (av : Option Addr) (nv cv : Nat) (vals : List Int) (hvs : Iz w (.slice av nv cv) vals) (hv0 : ∀ k, (Value.slice av nv cv).ownBlock = some k → own k = 0 ∧ k < w.heap.size) (hl : livesOf gs fr a b = true) (hnv : nv = (ks.getD (k - 1) (ByteArray.empty, [])).2.length) :
    Calls Tryz.prog 35 #[.pointer (some ⟨gw, 0, none⟩), .agg #[.int .i64 a, .int .i64 b], .agg #[.int .i64 (k : Int), .slice av nv cv]] w fun e w' => e = .returned (.int .i64 0) ∧ ∃ own', Wx 0 w' own' gw vk gp gm gt M ks gs fr f q (setT T s (fsum (ks.take (k - 1)) s 1) i vals nv) ∧ Wk own own' w w' := by
  obtain ⟨⟨hs, hsb⟩, hcol, -, -, -, -⟩ := hw.2 s g hq
  have h48 : fsum ks s 1 ≤ 48 := by have := fsum_le ks s 1 hk4; omega
  have hfk : fsum (ks.take (k - 1)) s 1 + nv ≤ (T s).2.length := by
    have h1 := fsum_take ks s (k - 1) (by omega)
    have h2 := fsum_take_le ks s (k - 1 + 1)
    rw [show k - 1 + 1 = k by omega] at h1 h2
    rw [if_pos hbit] at h1
    rw [hnv, getD_getElem _ _ _ (by omega), hcol]
    omega
  have hvl : vals.length = nv := by
    obtain ⟨ao, c, e, -⟩ := hvs
    simp only [Value.slice.injEq] at e
    exact e.2.1.symm
  have hm4 : nv ≤ 4 := by rw [hnv, getD_getElem _ _ _ (by omega)]; exact hk4 _ (List.getElem_mem _)
  obtain ⟨w2, hw2⟩ : ∃ X, X = (w.alloc (.cells #[.int .i64 a, .int .i64 b] 29)).alloc (.cells #[.int .i64 (k : Int), .slice av nv cv] 32) := ⟨_, rfl⟩
  have B2 : Hid (Below w.heap.size w w2) := hw2 ▸ below_on (below_alloc w _) (below_alloc _ _)
  have hx1 : w2.heap[w.heap.size]? = some (.cells #[.int .i64 a, .int .i64 b] 29 (0, 0)) := by
    rw [hw2]
    exact ((below_alloc _ _).block w.heap.size (by simp)).trans (heap_alloc_new w _)
  have hx2 : w2.heap[w.heap.size + 1]? = some (.cells #[.int .i64 (k : Int), .slice av nv cv] 32 (0, 0)) := by
    have := heap_alloc_new (w.alloc (.cells #[.int .i64 a, .int .i64 b] 29)) (.cells #[.int .i64 (k : Int), .slice av nv cv] 32)
    rw [hw2]
    simpa using this
  have HW : Hid (∀ W, Below w2.heap.size w2 W → W.cell? ⟨w.heap.size, 0, none⟩ = some (.int .i64 a) ∧ W.cell? ⟨w.heap.size, 1, none⟩ = some (.int .i64 b) ∧ W.cell? ⟨w.heap.size + 1, 0, none⟩ = some (.int .i64 (k : Int)) ∧ W.cell? ⟨w.heap.size + 1, 1, none⟩ = some (.slice av nv cv)) := fun W hW => by
    have h5 := (hW.block _ (lt_of_block hx2)).trans hx2
    refine ⟨(kx_cells hx1 hW).1, (kx_cells hx1 hW).2, ?_, ?_⟩ <;> rw [cell_of_row W _ _ _ 32 (0, 0) h5] <;> rfl
  have JH : Hid (Calls Tryz.prog 76 #[.pointer (some ⟨gw, 0, none⟩), .agg #[.int .i64 a, .int .i64 b], .int .i64 (k : Int)] w2 fun e w' => e = .returned (.int .i64 0) ∧ Below w2.heap.size w2 w') := by
    have := haspart_any (h.later B2.out) a b (k : Int) hib hks s hs (fun _ => hf)
    have e0 : hasE ks (livesOf gs fr a b) s (k : Int) = 0 := by
      unfold hasE
      rw [hl, if_pos rfl, if_pos ⟨by omega, by omega⟩, Int.toNat_natCast, if_pos hbit]
    rw [e0] at this
    exact this
  have JD : Hid (∀ W, Below w2.heap.size w2 W → Calls Tryz.prog 89 #[.pointer (some ⟨gw, 0, none⟩), .int .i64 (k : Int)] W fun e w' => e = .returned (.int .i64 (nv : Int)) ∧ w' = W) := fun W hW => by
    have hx := h.later (below_on B2.out hW)
    have := fields_any hx.2.2.1 hx.2.2.2.1.kr k hk1 hk2 hks
    rw [← getD_getElem ks (ByteArray.empty, []) (k - 1) (by omega), ← hnv] at this
    exact this
  have JP : Hid (∀ W, Below w2.heap.size w2 W → Calls Tryz.prog 88 #[.pointer (some ⟨gw, 0, none⟩), .agg #[.int .i64 a, .int .i64 b], .int .i64 (k : Int)] W fun e w' => e = .returned (.tuple #[.pointer (some ⟨g, 0, none⟩), .int .i64 (i : Int), .int .i64 ((fsum (ks.take (k - 1)) s 1 : Nat) : Int)]) ∧ Below W.heap.size W w') := fun W hW => place_any (h.later (below_on B2.out hW)) a b hib hks s g i hf hq hs hi hx h48 k hk1 hk2
  have H0 : Hid (∀ W, Below w2.heap.size w2 W → ∃ own', Wx 0 W own' gw vk gp gm gt M ks gs fr f q (setT T s (fsum (ks.take (k - 1)) s 1) i vals 0) ∧ Wk own own' w W) := fun W hW => ⟨_, by rw [setT_zero]; exact h.later (below_on B2.out hW), Wk.later (below_on B2.out hW)⟩
  have JS : Hid (∀ (W : World) (own1 : Nat → Nat) (j : Nat), j < nv → Wx 0 W own1 gw vk gp gm gt M ks gs fr f q (setT T s (fsum (ks.take (k - 1)) s 1) i vals j) → Calls Tryz.prog 91 #[.pointer (some ⟨g, 0, none⟩), .int .i64 (i : Int), .int .i64 ((fsum (ks.take (k - 1)) s 1 + j : Nat) : Int), .int .i64 (vals.getD j 0)] W fun e w' => e = .returned (.int .i64 0) ∧ ∃ own', Wx 0 w' own' gw vk gp gm gt M ks gs fr f q (setT T s (fsum (ks.take (k - 1)) s 1) i vals (j + 1)) ∧ Wk own1 own' W w') := fun W own1 j hj hW => set_one hW hq hi (by omega)
  have HV : Hid (∀ (W : World) (own1 : Nat → Nat), Wk own own1 w W → Iz W (.slice av nv cv) vals) := fun W own1 hk => hvs.frame hk.2 (fun k' e e2 => e2.1 (hv0 k' e).1)
  have hF48 : fsum (ks.take (k - 1)) s 1 ≤ 48 := Nat.le_trans (fsum_take_le ks s (k - 1)) h48
  have HVL := hide hvl
  obtain ⟨hcap, hbig⟩ : nv ≤ cv ∧ cv ≤ 9223372036854775807 := by
    obtain ⟨ao, c, e, e1, e2, -⟩ := hvs
    simp only [Value.slice.injEq] at e
    obtain ⟨rfl, rfl, rfl⟩ := e
    unfold maxLen at e2
    exact ⟨e1, by omega⟩
  generalize fsum (ks.take (k - 1)) s 1 = F at *
  clear h hw hf hq hi hx hx1 hx2 hvs hv0 hcol hsb hib hl hnv hfk hvl
  go_enter Tryz.func35, Tryz.ntmps35
  go_wp2_with fail
  rw [← hw2]
  obtain ⟨kx, hkx⟩ : ∃ k, k = w.heap.size := ⟨_, rfl⟩
  obtain ⟨kp, hkp⟩ : ∃ k, k = w.heap.size + 1 := ⟨_, rfl⟩
  rw [← hkp] at HW ⊢
  rw [← hkx] at HW ⊢
  clear hkx hkp hw2
  refine JH.out.mono ?_
  rintro e w3 ⟨rfl, hb3⟩
  have HB3 := hide hb3
  clear hb3 JH
  have HB4 := hide (below_on HB3.out (below_drew w3))
  obtain ⟨p0, p1, p2, p3⟩ := HW.out w3.drew HB4.out
  have J2 := hide (JD.out w3.drew HB4.out)
  have tn : ((nv : Int) != (nv : Int)) = false := by simp
  go_upto_region 4 with fail
  refine wp_region_noPanic ?_
  refine wp_region_late (J := fun i => i != 99) (S := fun W => W.cell? ⟨kp, 0, none⟩ = some (.int .i64 (k : Int)) ∧ W.cell? ⟨kp, 1, none⟩ = some (.slice av nv cv)) (by kernel_rfl) ⟨p2, p3⟩ (fun hHeld => ?_)
  refine' wpAnyJ_takeW (i := 0) (oi := { dst := some 21, op := Op.fieldAddr 32 (Operand.tmp 5) 1, type := 0, pos := "world.go:90", after := #[], guard := none }) (v := _) rfl (by kernel_rfl) (by kernel_rfl) (by kernel_rfl) (fun _ _ _ h => h) (Or.inl ⟨by rfl, ?hyA1⟩) ?reA1
  case hyA1 => (intro W hSw; (try dsimp only at hSw); go_simp; try with_reducible rfl)
  try simp only [Act.put, List.setIfInBounds_toArray, List.set_cons_zero, List.set_cons_succ]
  refine' wpAnyJ_take (i := 1) (oi := { dst := some 22, op := Op.load 30 (Operand.tmp 21), type := 30, pos := "world.go:90", after := #[{ on := 0, ground := Ground.data }], guard := none }) (v := _) rfl (by kernel_rfl) (by kernel_rfl) (by kernel_rfl) (by kernel_rfl) (fun _ _ _ h => h) (Or.inl ⟨by rfl, ?hyA2⟩) (by assumption) ?reA2
  case hyA2 => (intro W hSw; (try dsimp only at hSw); go_simp; try with_reducible rfl)
  try simp only [Act.put, List.setIfInBounds_toArray, List.set_cons_zero, List.set_cons_succ]
  refine' wpAnyJ_takeW (i := 2) (oi := { dst := some 23, op := Op.call { callee := Callee.builtin Builtin.len, args := #[Operand.tmp 22], argTypes := #[30] }, type := 3, pos := "world.go:90", after := #[{ on := 1, ground := Ground.data }], guard := none }) (v := _) rfl (by kernel_rfl) (by kernel_rfl) (by kernel_rfl) (fun _ _ _ h => h) (Or.inl ⟨by rfl, ?hyA3⟩) ?reA3
  case hyA3 => (intro W hSw; (try dsimp only at hSw); go_simp; try with_reducible rfl)
  try simp only [Act.put, List.setIfInBounds_toArray, List.set_cons_zero, List.set_cons_succ]
  refine' wpAnyJ_takeW (i := 3) (oi := { dst := some 24, op := Op.move (Operand.tmp 0), type := 37, pos := "world.go:90", after := #[], guard := none }) (v := _) rfl (by kernel_rfl) (by kernel_rfl) (by kernel_rfl) (fun _ _ _ h => h) (Or.inl ⟨by rfl, ?hyA4⟩) ?reA4
  case hyA4 => (intro W hSw; (try dsimp only at hSw); go_simp; try with_reducible rfl)
  try simp only [Act.put, List.setIfInBounds_toArray, List.set_cons_zero, List.set_cons_succ]
  refine' wpAnyJ_takeW (i := 4) (oi := { dst := some 25, op := Op.fieldAddr 32 (Operand.tmp 5) 0, type := 0, pos := "world.go:90", after := #[], guard := none }) (v := _) rfl (by kernel_rfl) (by kernel_rfl) (by kernel_rfl) (fun _ _ _ h => h) (Or.inl ⟨by rfl, ?hyA5⟩) ?reA5
  case hyA5 => (intro W hSw; (try dsimp only at hSw); go_simp; try with_reducible rfl)
  try simp only [Act.put, List.setIfInBounds_toArray, List.set_cons_zero, List.set_cons_succ]
  refine' wpAnyJ_take (i := 5) (oi := { dst := some 26, op := Op.load 3 (Operand.tmp 25), type := 3, pos := "world.go:90", after := #[{ on := 4, ground := Ground.data }], guard := none }) (v := _) rfl (by kernel_rfl) (by kernel_rfl) (by kernel_rfl) (by kernel_rfl) (fun _ _ _ h => h) (Or.inl ⟨by rfl, ?hyA6⟩) (by assumption) ?reA6
  case hyA6 => (intro W hSw; (try dsimp only at hSw); go_simp; try with_reducible rfl)
  try simp only [Act.put, List.setIfInBounds_toArray, List.set_cons_zero, List.set_cons_succ]
  refine wpAnyJ_ready (rs := [6]) (by kernel_rfl) (by simp) ?_
  refine AllReadyJ.cons (o := { dst := some 27, op := Op.call { callee := Callee.value (Operand.func 89), args := #[Operand.tmp 24, Operand.tmp 26], argTypes := #[37, 3] }, type := 3, pos := "world.go:90", after := #[{ on := 3, ground := Ground.data }, { on := 5, ground := Ground.data }], guard := none }) rfl (fun K hK => ?_) AllReadyJ.nil
  go_simp
  go_at_call 89
  refine J2.out.mono ?_
  rintro e w5 ⟨rfl, rfl⟩
  go_simp
  refine hK.out _ _ (fun _ _ => ⟨p2, p3⟩) ?_
  clear hK K
  try simp only [Act.put, List.setIfInBounds_toArray, List.set_cons_zero, List.set_cons_succ]
  refine' wpAnyJ_takeW (i := 7) (oi := { dst := some 28, op := Op.binOp BinOp.neq 3 (Operand.tmp 23) (Operand.tmp 27) 3, type := 4, pos := "world.go:90", after := #[{ on := 2, ground := Ground.data }, { on := 6, ground := Ground.data }], guard := none }) (v := _) rfl (by kernel_rfl) (by kernel_rfl) (by kernel_rfl) (fun _ _ _ h => h) (Or.inl ⟨by rfl, ?hyA7⟩) ?reA7
  case hyA7 => (intro W hSw; (try dsimp only at hSw); go_simp; try with_reducible rfl)
  try simp only [Act.put, List.setIfInBounds_toArray, List.set_cons_zero, List.set_cons_succ]
  refine wpAnyJ_done (by kernel_rfl) ?_ _
  refine NoPanic.normal ?_
  clear J2 JD
  have J6 := hide (JP.out w3.drew HB4.out)
  go_wp2_with fail
  refine J6.out.mono ?_
  rintro e w6 ⟨rfl, hb6⟩
  have HB6 := hide (below_on HB4.out hb6)
  clear hb6 J6 JP p0 p1 p2 p3
  obtain ⟨p0, p1, p2, p3⟩ := HW.out w6 HB6.out
  have H6 := hide (H0.out w6 HB6.out)
  clear H0 HW
  go_wp2_with fail
  clear p0 p1 p2 p3
  go_loopw [41] (fun v41 W => ∃ j : Nat, j ≤ nv ∧ v41 = .int .i64 (j : Int) ∧ Hid (∃ own', Wx 0 W own' gw vk gp gm gt M ks gs fr f q (setT T s F i vals j) ∧ Wk own own' w W)) (fun v41 _ => nv - (intOf v41).toNat)
  case atStart => exact ⟨0, Nat.zero_le _, rfl, H6⟩
  case round =>
    obtain ⟨j, hjl, rfl, HJ⟩ := hrel
    by_cases hlt : j < nv
    · have t1 : (j : Int) < (nv : Int) := by omega
      have t0 : (0 : Int) ≤ (j : Int) := by omega
      obtain ⟨own1, k1, k2⟩ := HJ.out
      obtain ⟨ao', c', e', -, -, hcell⟩ := HV.out wr own1 k2
      simp only [Value.slice.injEq] at e'
      obtain ⟨rfl, -, rfl⟩ := e'
      obtain ⟨gv, ov, rfl, ex⟩ := hcell j (by rw [HVL.out]; exact hlt)
      have hgd : vals.getD j 0 = vals[j]'(by rw [HVL.out]; exact hlt) := getD_getElem _ _ _ _
      have J9 : Hid (Calls Tryz.prog 91 #[.pointer (some ⟨g, 0, none⟩), .int .i64 (i : Int), .int .i64 ((F + j : Nat) : Int), .int .i64 (vals.getD j 0)] wr fun e w' => e = .returned (.int .i64 0) ∧ Hid (∃ own', Wx 0 w' own' gw vk gp gm gt M ks gs fr f q (setT T s F i vals (j + 1)) ∧ Wk own own' w w')) := (JS.out wr own1 j hlt k1).mono (fun e w' ⟨q1, own', q2, q3⟩ => ⟨q1, own', q2, k2.trans q3⟩)
      rw [hgd] at J9
      have t4 : IntKind.i64.wrap ((F : Int) + (j : Int)) = ((F + j : Nat) : Int) := by rw [IntKind.wrap_i64]; omega
      generalize vals[j]'(by rw [HVL.out]; exact hlt) = x at *
      obtain ⟨Fj, hFj⟩ : ∃ X : Int, X = ((F + j : Nat) : Int) := ⟨_, rfl⟩
      rw [← hFj] at t4 J9
      clear hcell k1 k2 hgd HJ hFj
      go_wp2_with fail
      refine J9.out.mono ?_
      rintro e w9 ⟨rfl, H9⟩
      clear J9
      go_wp2_with fail
      go_roundw
      case rel => exact ⟨j + 1, by omega, by go_num, H9⟩
      case measure => simp [intOf]; omega
    · obtain rfl : j = nv := by omega
      have t1 : ¬ (j : Int) < (j : Int) := by omega
      go_wp2_with fail
      go_ret
      exact ⟨rfl, HJ.out⟩
end
end Go.Proofs.YtafmiolehlagkaaGreat
