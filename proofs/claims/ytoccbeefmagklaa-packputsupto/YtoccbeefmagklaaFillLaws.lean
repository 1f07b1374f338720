/-
  What the owner's fill keeps: laws on rows that are written over and grown. No program in this text.
-/
import Derived.Test.YtoccbeefmagklaaApart
import Derived.Test.YtoccbeefmagklaaLooks
import Derived.Deep.AppendLies
namespace Go.Proofs.Ytoccbeefmagklaa
open Go.RowKit

theorem info65 : (Try.prog.info? 65).map (fun i => (i.zero, i.size, i.bytes)) = some (some (.agg #[.slice none 0 0, .int .u8 0]), 2, 32) := by kernel_rfl
def Full8 (w : World) (B : Nat) (v : Value) (n m : Nat) : Prop := w.ownsRow B 5 1 v n (List.replicate n (Value.int .u8 m))
def Read8 (w : World) (v : Value) (n m : Nat) : Prop := ∀ g j, v.ownBlock = some g → j < n → w.cell? ⟨g, j, none⟩ = some (.int .u8 m)
/-- The entries of an owner's list. -/
def ents (ev : Nat → Value) (em : Nat → Nat) : Nat → List Value
  | 0 => []
  | k + 1 => ents ev em k ++ [ev k, .int .u8 (em k)]
theorem ents_length (ev : Nat → Value) (em : Nat → Nat) : ∀ k, (ents ev em k).length = k * 2
  | 0 => rfl
  | k + 1 => by simp [ents, ents_length ev em k]; omega
theorem ents_at (ev : Nat → Value) (em : Nat → Nat) : ∀ (k j : Nat), j < k → (ents ev em k)[j * 2]? = some (ev j) ∧ (ents ev em k)[j * 2 + 1]? = some (.int .u8 (em j))
  | 0, j, h => by omega
  | k + 1, j, h => by
    unfold ents
    by_cases hj : j < k
    · rw [List.getElem?_append_left (by rw [ents_length]; omega), List.getElem?_append_left (by rw [ents_length]; omega)]
      exact ents_at ev em k j hj
    · obtain rfl : j = k := by omega
      rw [List.getElem?_append_right (by rw [ents_length]; omega), List.getElem?_append_right (by rw [ents_length]; omega), ents_length]
      simp
theorem ents_same {ev ev' : Nat → Value} {em em' : Nat → Nat} : ∀ k, (∀ j, j < k → ev j = ev' j ∧ em j = em' j) → ents ev em k = ents ev' em' k
  | 0, _ => rfl
  | k + 1, h => by
    unfold ents
    rw [ents_same k (fun j hj => h j (by omega)), (h k (by omega)).1, (h k (by omega)).2]
theorem fill8_step (xs : List Value) (m : Nat) {k : Nat} (h : k < xs.length) : (List.replicate k (Value.int .u8 m) ++ xs.drop k).set k (.int .u8 m) = List.replicate (k + 1) (Value.int .u8 m) ++ xs.drop (k + 1) := by
  rw [List.set_append_right _ _ (by simp), List.length_replicate, Nat.sub_self, List.drop_eq_getElem_cons h, List.set_cons_zero, List.replicate_succ']
  simp

/-- What stands beside the rows: the owner's list, the owner, the list of what is kept. -/
def Rest (w wr : World) (B go gk i : Nat) (ev : Nat → Value) (em : Nat → Nat) (vo : Value) : Prop :=
  wr.ownsRow B 65 2 vo i (ents ev em i) ∧ wr.heap[go]? = some (.cells #[vo] 29 (0, 0)) ∧ wr.heap[gk]? = w.heap[gk]? ∧ Below B w wr ∧ vo.ownBlock ≠ some go ∧ vo.ownBlock ≠ some gk
theorem Rest.set {w wr : World} {B go gk i g k : Nat} {ev : Nat → Value} {em : Nat → Nat} {vo : Value} (h : Rest w wr B go gk i ev em vo) (hg : B ≤ g) (h1 : g ≠ go) (h2 : g ≠ gk) (h3 : vo.ownBlock ≠ some g) (u : Value) : Rest w (wr.setCell ⟨g, k, none⟩ u) B go gk i ev em vo :=
  ⟨ownsRow_setCell_other h.1 h3 u, (heap_setCell_other wr ⟨g, k, none⟩ go u (Ne.symm h1)).trans h.2.1, (heap_setCell_other wr ⟨g, k, none⟩ gk u (Ne.symm h2)).trans h.2.2.1, h.2.2.2.1.setCell hg u, h.2.2.2.2⟩

theorem Rest.alloc {w wr : World} {B go gk i : Nat} {ev : Nat → Value} {em : Nat → Nat} {vo : Value} (h : Rest w wr B go gk i ev em vo) (hB : B ≤ wr.heap.size) (h1 : go < wr.heap.size) (h2 : gk < wr.heap.size) (o : Obj) : Rest w (wr.alloc o) B go gk i ev em vo :=
  ⟨h.1.alloc o, (Go.heap_alloc_old wr o h1).trans h.2.1, (Go.heap_alloc_old wr o h2).trans h.2.2.1, h.2.2.2.1.alloc hB o, h.2.2.2.2⟩
theorem Rest.grow {w wr w1 : World} {B go gk i : Nat} {ev : Nat → Value} {em : Nat → Nat} {vo y : Value} (h : Rest w wr B go gk i ev em vo) (hB : B ≤ wr.heap.size) (h1 : go < wr.heap.size) (h2 : gk < wr.heap.size) (hg : wr.grownBy w1 y.ownBlock) (h3 : y.ownBlock ≠ some go) (h4 : y.ownBlock ≠ some gk) (h5 : Ap vo y) (h6 : ∀ k, y.ownBlock = some k → B ≤ k) : Rest w w1 B go gk i ev em vo :=
  ⟨h5.kept h.1 hg, (hg.block go h1 (Ne.symm h3)).trans h.2.1, (hg.block gk h2 (Ne.symm h4)).trans h.2.2.1, h.2.2.2.1.grown hg hB h6, h.2.2.2.2⟩
theorem Read8.grow {w w1 : World} {v y : Value} {n m : Nat} (h : Read8 w v n m) (hg : w.grownBy w1 y.ownBlock) (ha : Ap v y) : Read8 w1 v n m := fun g j hv hj => hg.cell (h g j hv hj) (fun e => ha g hv e.symm)
theorem Read8.alloc {w : World} {v : Value} {n m : Nat} (h : Read8 w v n m) (o : Obj) : Read8 (w.alloc o) v n m := fun g j hg hj =>
  (((Below.refl _ _).alloc (Nat.le_refl _) o).cell (World.block_lt_of_cell? w _ (h g j hg hj))).trans (h g j hg hj)
theorem Read8.set {w : World} {v : Value} {n m g k : Nat} (h : Read8 w v n m) (hne : v.ownBlock ≠ some g) (u : Value) : Read8 (w.setCell ⟨g, k, none⟩ u) v n m := fun g' j hv hj =>
  (World.cell?_setCell_other _ _ _ _ (fun e => hne (by rw [hv]; exact congrArg some (congrArg Addr.block e).symm))).trans (h g' j hv hj)
theorem Full8.read {w : World} {B n m : Nat} {v : Value} (h : Full8 w B v n m) : Read8 w v n m := by
  intro g j hg hj
  rcases h.2 with ⟨rfl, h0⟩ | ⟨g', cap, cur, rfl, hb, hg', hnc, hcm, hcs, htake⟩
  · simp [Value.ownBlock] at hg
  · have : g' = g := by simpa [Value.ownBlock] using hg
    subst this
    rw [World.ownsRow.cellAt h j (by omega)]
    simp [hj]
/-- All that stands beside the row that is grown. -/
def Oth (w wr : World) (B go gk N i : Nat) (vs : Nat → Value) (ns : Nat → Nat) (ev : Nat → Value) (em : Nat → Nat) (vo y : Value) : Prop :=
  Rest w wr B go gk (N + i) ev em vo ∧ (∀ j, j < N → j ≠ i → Read8 wr (vs j) (ns j) (j + 1)) ∧ (∀ j, i < j → j < N → Full8 wr B (vs j) (ns j) (j + 1)) ∧ (∀ j, j < i → Full8 wr B (ev (N + j)) (ns j + 70) (j + 1)) ∧
  Ap vo y ∧ (∀ j, j < N → j ≠ i → Ap (vs j) y) ∧ (∀ j, j < i → Ap (ev (N + j)) y) ∧ y.ownBlock ≠ some go ∧ y.ownBlock ≠ some gk
theorem Oth.step {w wr w1 : World} {B go gk N i gw : Nat} {vs : Nat → Value} {ns : Nat → Nat} {ev : Nat → Value} {em : Nat → Nat} {vo y y' u : Value} {o : Obj} (h : Oth w wr B go gk N i vs ns ev em vo y) (hB : B ≤ wr.heap.size) (h1 : go < gw) (h2 : gk < gw) (hgw : gw < wr.heap.size) (hBg : B ≤ gw)
    (hg : World.grownBy (wr.alloc o) w1 y.ownBlock) (hat : y'.ownBlock = y.ownBlock ∨ y'.ownBlock = some (wr.alloc o).heap.size) (hy : ∀ k, y.ownBlock = some k → B ≤ k)
    (F1 : ∀ j, j < N → ∀ g, (vs j).ownBlock = some g → g < gw) (F2 : ∀ j, j < i → ∀ g, (ev (N + j)).ownBlock = some g → g < gw) (F3 : ∀ g, vo.ownBlock = some g → g < gw) :
    Oth w (w1.setCell ⟨gw, 0, none⟩ u) B go gk N i vs ns ev em vo y' := by
  obtain ⟨a1, a2, a3, a4, a5, a6, a7, a8, a9⟩ := h
  have hsz : wr.heap.size < (wr.alloc o).heap.size := by simp
  have ne : ∀ {v : Value}, (∀ g, v.ownBlock = some g → g < gw) → v.ownBlock ≠ some gw := fun hv he => by have := hv gw he; omega
  have nx : ∀ x, y.ownBlock ≠ some x → x < gw → y'.ownBlock ≠ some x := fun x hx hl he => by
    rcases hat with h | h
    · exact hx (h ▸ he)
    · rw [h] at he
      have := Option.some.inj he
      omega
  refine ⟨?_, ?_, ?_, ?_, ?_, ?_, ?_, nx go a8 h1, nx gk a9 h2⟩
  · exact ((a1.alloc hB (by omega) (by omega) o).grow (by omega) (by omega) (by omega) hg a8 a9 a5 hy).set hBg (by omega) (by omega) (ne F3) u
  · exact fun j hj hne => (((a2 j hj hne).alloc o).grow hg (a6 j hj hne)).set (ne (F1 j hj)) u
  · exact fun j hj hjn => ownsRow_setCell_other ((a6 j hjn (by omega)).kept (World.ownsRow.alloc (a3 j hj hjn) o) hg) (ne (F1 j hjn)) u
  · exact fun j hj => ownsRow_setCell_other ((a7 j hj).kept (World.ownsRow.alloc (a4 j hj) o) hg) (ne (F2 j hj)) u
  · exact a5.next (fun g hgg => by have := F3 g hgg; omega) hat
  · exact fun j hj hne => (a6 j hj hne).next (fun g hgg => by have := F1 j hj g hgg; omega) hat
  · exact fun j hj => (a7 j hj).next (fun g hgg => by have := F2 j hj g hgg; omega) hat

theorem Oth.alloc {w wr : World} {B go gk N i : Nat} {vs : Nat → Value} {ns : Nat → Nat} {ev : Nat → Value} {em : Nat → Nat} {vo y : Value} (h : Oth w wr B go gk N i vs ns ev em vo y) (hB : B ≤ wr.heap.size) (h1 : go < wr.heap.size) (h2 : gk < wr.heap.size) (o : Obj) : Oth w (wr.alloc o) B go gk N i vs ns ev em vo y := by
  obtain ⟨a1, a2, a3, a4, a5⟩ := h
  exact ⟨a1.alloc hB h1 h2 o, fun j hj hne => (a2 j hj hne).alloc o, fun j hj hjn => World.ownsRow.alloc (a3 j hj hjn) o, fun j hj => World.ownsRow.alloc (a4 j hj) o, a5⟩
theorem Full8.snoc {w : World} {B n m : Nat} {v : Value} (h : w.ownsRow B 5 1 v (n + 1) (List.replicate n (Value.int .u8 m) ++ [Value.int .u8 m])) : Full8 w B v (n + 1) m := by
  unfold Full8
  rw [List.replicate_succ']
  exact h
/-- What fill leaves. -/
def Filled (w w' : World) (B go gk N : Nat) (vs : Nat → Value) (ns : Nat → Nat) : Prop :=
  ∃ (vo : Value) (ev : Nat → Value) (em : Nat → Nat), Rest w w' B go gk (N + N) ev em vo ∧ (∀ j, j < N → ev j = vs j ∧ em j = j + 1 ∧ em (N + j) = j + 1) ∧ (∀ j, j < N → Read8 w' (vs j) (ns j) (j + 1)) ∧ (∀ j, j < N → Full8 w' B (ev (N + j)) (ns j + 70) (j + 1))
/-- Where the second loop of fill stands. -/
def All2 (w wr : World) (B go gk N i : Nat) (vs : Nat → Value) (ns : Nat → Nat) (ev : Nat → Value) (em : Nat → Nat) (vo : Value) : Prop :=
  Rest w wr B go gk (N + i) ev em vo ∧ (∀ j, j < N → Read8 wr (vs j) (ns j) (j + 1)) ∧ (∀ j, i ≤ j → j < N → Full8 wr B (vs j) (ns j) (j + 1)) ∧ (∀ j, j < i → Full8 wr B (ev (N + j)) (ns j + 70) (j + 1)) ∧
  (∀ j, j < N → Ap (vs j) vo) ∧ (∀ j, j < i → Ap (ev (N + j)) vo) ∧ (∀ j, j < i → ∀ k, i ≤ k → k < N → Ap (vs k) (ev (N + j))) ∧ (∀ j, j < i → (ev (N + j)).ownBlock ≠ some go ∧ (ev (N + j)).ownBlock ≠ some gk) ∧
  (∀ j, j < N → ∀ g, (vs j).ownBlock = some g → g < wr.heap.size) ∧ (∀ j, j < N → ev j = vs j ∧ em j = j + 1) ∧ (∀ j, j < i → em (N + j) = j + 1)
theorem All2.oth {w wr : World} {B go gk N i : Nat} {vs : Nat → Value} {ns : Nat → Nat} {ev : Nat → Value} {em : Nat → Nat} {vo : Value} (h : All2 w wr B go gk N i vs ns ev em vo) (hi : i < N) (hvo : ∀ j, j < N → (vs j).ownBlock ≠ some go ∧ (vs j).ownBlock ≠ some gk) (hvv : ∀ i j, i < N → j < N → i ≠ j → Ap (vs i) (vs j)) : Oth w wr B go gk N i vs ns ev em vo (vs i) := by
  obtain ⟨a1, a2, a3, a4, a5, a6, a7, a8, a9, a10, a11⟩ := h
  exact ⟨a1, fun j hj _ => a2 j hj, fun j hj hjn => a3 j (by omega) hjn, a4, (a5 i hi).symm, fun j hj hne => hvv j i hj hi hne, fun j hj => (a7 j hj i (Nat.le_refl _) hi).symm, (hvo i hi).1, (hvo i hi).2⟩

theorem All2.next {w wr w9 : World} {B go gk N i gw g9 cap9 : Nat} {vs : Nat → Value} {ns : Nat → Nat} {ev : Nat → Value} {em : Nat → Nat} {vo y : Value} {o : Obj} (h : Oth w wr B go gk N i vs ns ev em vo y) (hi : i < N) (hB : B ≤ wr.heap.size) (hBo : B ≤ go) (hgg : go ≠ gk) (h1 : go < gw) (h2 : gk < gw) (hgw : gw < wr.heap.size)
    (L : Full8 wr B y (ns i + 70) (i + 1)) (R1 : Read8 wr (vs i) (ns i) (i + 1)) (hg : World.grownBy (wr.drew.alloc o) w9 vo.ownBlock) (hat : vo.ownBlock = some g9 ∨ g9 = (wr.drew.alloc o).heap.size)
    (hown : w9.ownsRow B 65 2 (.slice (some ⟨g9, 0, none⟩) (N + i + 1) cap9) (N + i + 1) (ents ev em (N + i) ++ [y, .int .u8 ((i : Int) + 1)]))
    (F1 : ∀ j, j < N → ∀ g, (vs j).ownBlock = some g → g < gw) (F2 : ∀ j, j < i → ∀ g, (ev (N + j)).ownBlock = some g → g < gw)
    (F5 : ∀ j, j < i → (ev (N + j)).ownBlock ≠ some go ∧ (ev (N + j)).ownBlock ≠ some gk) (F6 : ∀ j, j < i → ∀ k, i ≤ k → k < N → Ap (vs k) (ev (N + j))) (F7 : ∀ j, j < N → Ap (vs j) vo) (F8 : ∀ j, j < i → Ap (ev (N + j)) vo)
    (F9 : (∀ j, j < N → ev j = vs j ∧ em j = j + 1) ∧ (∀ j, j < i → em (N + j) = j + 1)) (hvo : ∀ j, j < N → (vs j).ownBlock ≠ some go ∧ (vs j).ownBlock ≠ some gk) :
    All2 w (w9.setCell ⟨go, 0, none⟩ (.slice (some ⟨g9, 0, none⟩) (N + i + 1) cap9)) B go gk N (i + 1) vs ns (fun j => if j = N + i then y else ev j) (fun j => if j = N + i then i + 1 else em j) (.slice (some ⟨g9, 0, none⟩) (N + i + 1) cap9) := by
  obtain ⟨a1, a2, a3, a4, a5, a6, a7, a8, a9⟩ := h
  have hsz : (wr.drew.alloc o).heap.size = wr.heap.size + 1 := by simp
  have hgrw : wr.heap.size + 1 ≤ w9.heap.size := hsz ▸ hg.size
  have hatv : (Value.slice (some ⟨g9, 0, none⟩) (N + i + 1) cap9).ownBlock = vo.ownBlock ∨ (Value.slice (some ⟨g9, 0, none⟩) (N + i + 1) cap9).ownBlock = some (wr.drew.alloc o).heap.size := by
    rcases hat with h | h
    · exact .inl h.symm
    · exact .inr (by rw [h]; rfl)
  have hn9 : ∀ x, vo.ownBlock ≠ some x → x < wr.heap.size → g9 ≠ x := fun x h1 h2 h3 => by
    rcases hat with h | h
    · exact h1 (h3 ▸ h)
    · omega
  have ng := hn9 go a1.2.2.2.2.1 (by omega)
  have nk := hn9 gk a1.2.2.2.2.2 (by omega)
  have evs : ∀ j, j < N + i → (if j = N + i then y else ev j) = ev j := fun j hj => if_neg (by omega)
  have evN : ∀ j, j < i → (if N + j = N + i then y else ev (N + j)) = ev (N + j) := fun j hj => if_neg (by omega)
  have keep : ∀ {v : Value} {n : Nat} {xs : List Value}, Ap v vo → v.ownBlock ≠ some go → wr.ownsRow B 5 1 v n xs → (w9.setCell ⟨go, 0, none⟩ (.slice (some ⟨g9, 0, none⟩) (N + i + 1) cap9)).ownsRow B 5 1 v n xs := fun ha hn h =>
    ownsRow_setCell_other (ha.kept (World.ownsRow.alloc (w := wr.drew) h o) hg) hn _
  have keepR : ∀ {v : Value} {n m : Nat}, Ap v vo → v.ownBlock ≠ some go → Read8 wr v n m → Read8 (w9.setCell ⟨go, 0, none⟩ (.slice (some ⟨g9, 0, none⟩) (N + i + 1) cap9)) v n m := fun ha hn h =>
    ((Read8.alloc (w := wr.drew) h o).grow hg ha).set hn _
  refine ⟨⟨?_, ?_, ?_, ?_, ?_, ?_⟩, ?_, ?_, ?_, ?_, ?_, ?_, ?_, ?_, ?_, ?_⟩
  · refine ownsRow_setCell_other ?_ (by simp [Value.ownBlock]; exact ng) _
    have e : ents (fun j => if j = N + i then y else ev j) (fun j => if j = N + i then i + 1 else em j) (N + (i + 1)) = ents ev em (N + i) ++ [y, .int .u8 ((i : Int) + 1)] := by
      show ents _ _ (N + i) ++ _ = _
      rw [ents_same (ev' := ev) (em' := em) (N + i) (fun j hj => ⟨if_neg (by omega), if_neg (by omega)⟩)]
      simp
    rw [e]
    exact hown
  · have h9 : w9.heap[go]? = some (.cells #[vo] 29 (0, 0)) := (hg.block go (by omega) (fun e => a1.2.2.2.2.1 e.symm)).trans ((Go.heap_alloc_old wr.drew _ (show go < wr.heap.size by omega)).trans a1.2.1)
    rw [heap_setCell_same w9 go 0 _ 29 _ h9]
    rfl
  · exact (heap_setCell_other w9 ⟨go, 0, none⟩ gk _ (Ne.symm hgg)).trans ((hg.block gk (by omega) (fun e => a1.2.2.2.2.2 e.symm)).trans ((Go.heap_alloc_old wr.drew _ (show gk < wr.heap.size by omega)).trans a1.2.2.1))
  · exact ((((a1.2.2.2.1.trans (⟨rfl, rfl, rfl, Nat.le_refl _, fun _ _ => rfl⟩ : Below B wr wr.drew)).alloc hB o).grown hg (by omega) (fun q hq => (a1.1.lt q hq).1)).setCell (p := ⟨go, 0, none⟩) hBo _)
  · simp [Value.ownBlock]
    exact ng
  · simp [Value.ownBlock]
    exact nk
  · intro j hj
    by_cases hji : j = i
    · subst hji
      exact keepR (F7 j hj) (hvo j hj).1 R1
    · exact keepR (F7 j hj) (hvo j hj).1 (a2 j hj hji)
  · exact fun j hj hjn => keep (F7 j hjn) (hvo j hjn).1 (a3 j (by omega) hjn)
  · intro j hj
    by_cases hji : j = i
    · subst hji
      simp only [if_pos]
      exact keep a5.symm a8 L
    · have hj' : j < i := by omega
      simp only [evN j hj']
      exact keep (F8 j hj') (F5 j hj').1 (a4 j hj')
  · exact fun j hj => (F7 j hj).next (fun g hgg => by have := F1 j hj g hgg; omega) hatv
  · intro j hj
    by_cases hji : j = i
    · subst hji
      simp only [if_pos]
      exact a5.symm.next (fun g hgg => by have := (L.lt g hgg).2; omega) hatv
    · have hj' : j < i := by omega
      simp only [evN j hj']
      exact (F8 j hj').next (fun g hgg => by have := F2 j hj' g hgg; omega) hatv
  · intro j hj k hk hkn
    by_cases hji : j = i
    · subst hji
      simp only [if_pos]
      exact a6 k hkn (by omega)
    · have hj' : j < i := by omega
      simp only [evN j hj']
      exact F6 j hj' k (by omega) hkn
  · intro j hj
    by_cases hji : j = i
    · subst hji
      simp only [if_pos]
      exact ⟨a8, a9⟩
    · have hj' : j < i := by omega
      simp only [evN j hj']
      exact F5 j hj'
  · intro j hj g hgg
    have := F1 j hj g hgg
    simp
    omega
  · intro j hj
    show (if j = N + i then y else ev j) = vs j ∧ (if j = N + i then i + 1 else em j) = j + 1
    rw [if_neg (by omega), if_neg (by omega)]
    exact F9.1 j hj
  · intro j hj
    by_cases hji : j = i
    · subst hji
      simp
    · show (if N + j = N + i then i + 1 else em (N + j)) = j + 1
      rw [if_neg (by omega)]
      exact F9.2 j (by omega)

end Go.Proofs.Ytoccbeefmagklaa
