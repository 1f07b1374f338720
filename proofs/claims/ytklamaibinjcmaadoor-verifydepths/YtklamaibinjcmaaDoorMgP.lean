import Derived.Test.YtklamaibinjcmaaDoorVgE
import Derived.Test.YtklamaibinjcmaaDoorVgN
/-
  Verify: names do not count, plain.
-/
namespace Go.Proofs.YtklamaibinjcmaaDoor
open Go.RowKit
set_option maxRecDepth 100000
/-- A program without its names. -/
def erR (r : Rt) : Rt := ⟨ByteArray.empty, r.pa, r.lo, r.code⟩
def erS (s : Sy) : Sy := ⟨s.wi, s.wo, s.re, s.wr, erR s.run⟩
def erP (p : Pg) : Pg := ⟨p.sys.map erS, p.fns.map erR⟩
def erO (r : Ro) : Ro := ⟨erR r.rt, r.pl, r.sy, r.re, r.wr⟩
theorem sumS_er (l : List Sy) : sumS (l.map erS) = sumS l := by
  unfold sumS
  rw [List.map_map]
  rfl
theorem sumR_er (l : List Rt) : sumR (l.map erR) = sumR l := by
  unfold sumR
  rw [List.map_map]
  rfl
theorem rosOf_er (p : Pg) : rosOf (erP p) = (rosOf p).map erO := by
  unfold rosOf roS roF erP
  dsimp only
  rw [List.map_append]
  congr 1
  · apply List.ext_getElem
    · simp
    · intro i h1 h2
      simp only [List.getElem_mapIdx, List.getElem_map, ← List.map_take, sumS_er]
      rfl
  · apply List.ext_getElem
    · simp
    · intro i h1 h2
      simp only [List.getElem_mapIdx, List.getElem_map, ← List.map_take, sumR_er, sumS_er]
      rfl
theorem takE_er (fs : List Rt) (i : Ins) : takE (fs.map erR) i = takE fs i := by
  unfold takE parE
  rw [List.length_map, List.map_map]
  rfl
theorem behI_er (fs : List Rt) : behI (fs.map erR) = behI fs := by
  funext c p d
  unfold behI
  rw [takE_er]
theorem rch_er (fs : List Rt) (c : List Ins) : ∀ k p d, rch (fs.map erR) c k p d ↔ rch fs c k p d
  | 0, _, _ => Iff.rfl
  | k + 1, p, d => by
    unfold rch
    rw [behI_er]
    constructor
    · rintro ⟨p', d', h1, h2, h3⟩
      exact ⟨p', d', (rch_er fs c k p' d').1 h1, h2, h3⟩
    · rintro ⟨p', d', h1, h2, h3⟩
      exact ⟨p', d', (rch_er fs c k p' d').2 h1, h2, h3⟩
theorem Rch_er (fs : List Rt) : Rch (fs.map erR) = Rch fs := by
  funext c p d
  exact propext ⟨fun ⟨k, h⟩ => ⟨k, (rch_er fs c k p d).1 h⟩, fun ⟨k, h⟩ => ⟨k, (rch_er fs c k p d).2 h⟩⟩
theorem Rcd_er (fs : List Rt) : Rcd (fs.map erR) = Rcd fs := by
  funext c p
  unfold Rcd
  rw [Rch_er]
theorem wrR_er (a b e : Int) (fs : List Rt) : wrR a b e (fs.map erR) = wrR a b e fs := by
  funext c p
  have h : Bad (fs.map erR) c p ↔ Bad fs c p := by
    unfold Bad
    rw [Rch_er, behI_er]
  unfold wrR
  by_cases hb : Bad fs c p
  · rw [if_pos hb, if_pos (h.2 hb)]
  · rw [if_neg hb, if_neg (fun e => hb (h.1 e))]
theorem Dpo_er (a b e : Int) (fs : List Rt) : Dpo a b e (fs.map erR) = Dpo a b e fs := by
  funext c o
  unfold Dpo
  rw [wrR_er, Rcd_er]
theorem cls_er (fs : List Rt) : cls (fs.map erR) = cls fs := by
  unfold cls
  rw [List.map_map]
  rfl
theorem DaO_er (fs : List Rt) (l : List Ro) (o : Option (Int × Int)) : DaO (fs.map erR) (l.map erO) o ↔ DaO fs l o := by
  unfold DaO RD
  simp only [Dpo_er, wrR_er, List.length_map, List.getElem_map]
  exact Iff.rfl
theorem RnO_er (fs : List Rt) (l : List Ro) (o : Option (Int × Int)) : RnO (fs.map erR) (l.map erO) o ↔ RnO fs l o := by
  have h : ∀ r, RnB (fs.map erR) (erO r) = RnB fs r := fun r => by
    funext a
    unfold RnB
    rw [Rcd_er]
    rfl
  unfold RnO
  simp only [h, List.length_map, List.getElem_map]
  exact Iff.rfl
theorem TcO_er (nf : Nat) (ks : List Kind) (l : List Ro) (o : Option (Int × Int)) : TcO nf ks (l.map erO) o ↔ TcO nf ks l o := by
  have h : ∀ r, TB nf ks (erO r) = TB nf ks r := fun r => rfl
  have h2 : ∀ r a, tbE nf ks (erO r) a = tbE nf ks r a := fun r a => rfl
  unfold TcO RBad
  simp only [h, h2, List.length_map, List.getElem_map]
  exact Iff.rfl
theorem SetBad_er (nk : Nat) (l : List Sy) : SetBad nk (l.map erS) = SetBad nk l := by
  funext n
  unfold SetBad
  simp only [List.length_map, List.getElem_map]
  exact propext Iff.rfl
theorem plOf_er (p : Pg) (n : Nat) : plOf (erP p) n = plOf p n := by
  unfold plOf
  rw [rosOf_er, List.getElem?_map, Option.map_map]
  rfl
theorem Vo2_er (p : Pg) (ks : List Kind) (o : Option (Int × Int)) : Vo2 (erP p) ks o ↔ Vo2 p ks o := by
  have e1 : (erP p).sys = p.sys.map erS := rfl
  have e2 : (erP p).fns = p.fns.map erR := rfl
  unfold Vo2 Vo3 Vo4 Vo5
  simp only [plOf_er, rosOf_er, e1, e2, SetBad_er, TcO_er, DaO_er, RnO_er, cls_er, List.length_map]
/-! ### One answer -/
theorem TcO.unique {nf : Nat} {ks : List Kind} {l : List Ro} {o o' : Option (Int × Int)} (h : TcO nf ks l o) (h' : TcO nf ks l o') : o = o' := by
  have key : ∀ n a (hn : n < l.length), Fst l[n].rt.code.length (TB nf ks l[n]) (some a) → RBad nf ks l n := fun n a hn f => ⟨hn, a, f.1, f.2.1⟩
  rcases h with ⟨rfl, h1⟩ | ⟨n, a, hn, h1, h2, rfl⟩
  · rcases h' with ⟨rfl, -⟩ | ⟨m, b, hm, -, h3, -⟩
    · rfl
    · exact absurd (key m b hm h3) (h1 m hm)
  · rcases h' with ⟨-, h3⟩ | ⟨m, b, hm, h3, h4, rfl⟩
    · exact absurd (key n a hn h2) (h3 n hn)
    · rcases Nat.lt_trichotomy n m with c | c | c
      · exact absurd (key n a hn h2) (h3 n c)
      · subst c
        obtain rfl := Option.some.inj (h2.unique h4 fun _ _ => Iff.rfl)
        rfl
      · exact absurd (key m b hm h4) (h1 m c)
theorem RnO.unique {fs : List Rt} {l : List Ro} {o o' : Option (Int × Int)} (h : RnO fs l o) (h' : RnO fs l o') : o = o' := by
  rcases h with ⟨rfl, h1⟩ | ⟨n, a, hn, h1, h2, rfl⟩
  · rcases h' with ⟨rfl, -⟩ | ⟨m, b, hm, -, h3, -⟩
    · rfl
    · exact absurd h3.2.1 (h1 m hm b h3.1)
  · rcases h' with ⟨-, h3⟩ | ⟨m, b, hm, h3, h4, rfl⟩
    · exact absurd h2.2.1 (h3 n hn a h2.1)
    · rcases Nat.lt_trichotomy n m with c | c | c
      · exact absurd h2.2.1 (h3 n c a h2.1)
      · subst c
        obtain rfl := Option.some.inj (h2.unique h4 fun _ _ => Iff.rfl)
        rfl
      · exact absurd h4.2.1 (h1 m c b h4.1)
theorem DaO.unique {fs : List Rt} {l : List Ro} {o o' : Option (Int × Int)} (h : DaO fs l o) (h' : DaO fs l o') : o = o' := by
  have key : ∀ {c : List Ins} {P : Prop} {f : Nat → Prop}, ((c = [] ∧ P) ∨ ∃ a, c ≠ [] ∧ Dpo 150 151 153 fs c (some a) ∧ f a) → ¬ RD fs c := by
    intro c P f h hr
    rcases h with ⟨e, -⟩ | ⟨a, -, e, -⟩
    · exact hr.1 e
    · exact hr.2 a e.1 e.2.1
  rcases h with ⟨rfl, h1⟩ | ⟨n, hn, h1, h2⟩
  · rcases h' with ⟨rfl, -⟩ | ⟨m, hm, -, h3⟩
    · rfl
    · exact absurd (h1 m hm) (key h3)
  · rcases h' with ⟨-, h3⟩ | ⟨m, hm, h3, h4⟩
    · exact absurd (h3 n hn) (key h2)
    · rcases Nat.lt_trichotomy n m with c | c | c
      · exact absurd (h3 n c) (key h2)
      · subst c
        rcases h2 with ⟨e, rfl⟩ | ⟨a, e, e1, rfl⟩
        · rcases h4 with ⟨-, rfl⟩ | ⟨b, e', -⟩
          · rfl
          · exact absurd e e'
        · rcases h4 with ⟨e', -⟩ | ⟨b, -, e2, rfl⟩
          · exact absurd e' e
          · obtain rfl := Option.some.inj (Fst.unique e1 e2 fun _ _ => Iff.rfl)
            rfl
      · exact absurd (h1 m c) (key h4)
theorem Vo2.unique {p : Pg} {ks : List Kind} {o o' : Option (Int × Int)} (h : Vo2 p ks o) (h' : Vo2 p ks o') : o = o' := by
  obtain ⟨a, h1, h2⟩ := h
  obtain ⟨a', h1', h2'⟩ := h'
  obtain rfl := h1.unique h1' fun _ _ => Iff.rfl
  rcases h2 with ⟨n, rfl, rfl⟩ | ⟨rfl, b, h3, h4⟩
  · rcases h2' with ⟨m, e, rfl⟩ | ⟨e, -⟩
    · obtain rfl := Option.some.inj e
      rfl
    · cases e
  rcases h2' with ⟨m, e, -⟩ | ⟨-, b', h3', h4'⟩
  · cases e
  obtain rfl := h3.unique h3'
  rcases h4 with ⟨x, rfl, rfl⟩ | ⟨rfl, c, h5, h6⟩
  · rcases h4' with ⟨y, e, rfl⟩ | ⟨e, -⟩
    · exact e
    · cases e
  rcases h4' with ⟨y, e, -⟩ | ⟨-, c', h5', h6'⟩
  · cases e
  obtain rfl := h5.unique h5' fun _ _ => Iff.rfl
  rcases h6 with ⟨n, rfl, rfl⟩ | ⟨rfl, d, h7, h8⟩
  · rcases h6' with ⟨m, e, rfl⟩ | ⟨e, -⟩
    · obtain rfl := Option.some.inj e
      rfl
    · cases e
  rcases h6' with ⟨m, e, -⟩ | ⟨-, d', h7', h8'⟩
  · cases e
  obtain rfl := h7.unique h7'
  rcases h8 with ⟨x, rfl, rfl⟩ | ⟨rfl, h9⟩
  · rcases h8' with ⟨y, e, rfl⟩ | ⟨e, -⟩
    · exact e
    · cases e
  rcases h8' with ⟨y, e, -⟩ | ⟨-, h9'⟩
  · cases e
  exact h9.unique h9'
/-- What may be written but for its names: the same answer. -/
theorem vo_names {p q : Pg} {ks : List Kind} {o o' : Option (Int × Int)} (h : Vo p ks o) (h' : Vo q ks o') (he : erP p = erP q) (hp : mayOk p = true) (hq : mayOk q = true) : o = o' := by
  rcases h with ⟨h1, rfl⟩ | ⟨-, h1, -⟩ | ⟨h1, -, h2⟩
  · rcases h' with ⟨-, rfl⟩ | ⟨h2, -⟩ | ⟨h2, -⟩
    · rfl
    · exact absurd h2 h1
    · exact absurd h2 h1
  · rw [hp] at h1
    cases h1
  · rcases h' with ⟨h3, -⟩ | ⟨-, h3, -⟩ | ⟨-, -, h3⟩
    · exact absurd h1 h3
    · rw [hq] at h3
      cases h3
    · have a := (Vo2_er p ks o).2 h2
      rw [he] at a
      exact a.unique ((Vo2_er q ks o').2 h3)
theorem vo_bad {q : Pg} {ks : List Kind} {o : Option (Int × Int)} (h : Vo q ks o) (hk : mayB ks) (hq : mayOk q = false) : o = some (0, 130) := by
  rcases h with ⟨h1, -⟩ | ⟨-, -, rfl⟩ | ⟨-, h1, -⟩
  · exact absurd hk h1
  · rfl
  · rw [hq] at h1
    cases h1
/-! ### Other names -/
def nmR (n : ByteArray) (r : Rt) : Rt := ⟨n, r.pa, r.lo, r.code⟩
def nmS (n : ByteArray) (s : Sy) : Sy := ⟨s.wi, s.wo, s.re, s.wr, nmR n s.run⟩
def okN (n : ByteArray) : Prop := 1 ≤ n.size ∧ n.size ≤ 16
theorem rtOk_name (r : Rt) : rtOk r = true ↔ okN r.name ∧ (decide (0 ≤ r.pa ∧ r.pa ≤ 4) && decide (r.pa ≤ r.lo ∧ r.lo ≤ 32) && decide (r.code.length ≤ 2000) && r.code.all isIns) = true := by
  unfold rtOk okN
  simp only [Bool.and_eq_true, decide_eq_true_iff]
  constructor
  · rintro ⟨⟨⟨⟨a, b⟩, c⟩, d⟩, e⟩
    exact ⟨a, ⟨⟨b, c⟩, d⟩, e⟩
  · rintro ⟨a, ⟨⟨b, c⟩, d⟩, e⟩
    exact ⟨⟨⟨⟨a, b⟩, c⟩, d⟩, e⟩
/-- The same but for the names. -/
theorem ok_same {p q : Pg} (he : erP p = erP q) (hp : mayOk p = true) (h1 : ∀ s ∈ q.sys, okN s.run.name) (h2 : ∀ r ∈ q.fns, okN r.name) : mayOk q = true := by
  have e1 : p.sys.map erS = q.sys.map erS := congrArg Pg.sys he
  have e2 : p.fns.map erR = q.fns.map erR := congrArg Pg.fns he
  unfold mayOk at hp ⊢
  simp only [Bool.and_eq_true, decide_eq_true_iff, List.all_eq_true] at hp ⊢
  obtain ⟨⟨⟨a, b⟩, c⟩, d⟩ := hp
  have l1 : p.sys.length = q.sys.length := by simpa using congrArg List.length e1
  have l2 : p.fns.length = q.fns.length := by simpa using congrArg List.length e2
  refine ⟨⟨⟨by omega, fun s hs => ?_⟩, fun r hr => ?_⟩, ?_⟩
  · have : erS s ∈ p.sys.map erS := e1 ▸ List.mem_map.2 ⟨s, hs, rfl⟩
    obtain ⟨t, ht, e⟩ := List.mem_map.1 this
    have hb := b t ht
    have hn := h1 s hs
    obtain ⟨w1, w2, w3, w4, ⟨nm, pa, lo, co⟩⟩ := s
    obtain ⟨u1, u2, u3, u4, ⟨nm', pa', lo', co'⟩⟩ := t
    simp only [erS, erR, Sy.mk.injEq, Rt.mk.injEq, true_and] at e
    obtain ⟨rfl, rfl, rfl, rfl, rfl, rfl, rfl⟩ := e
    unfold sysOk at hb ⊢
    simp only [Bool.and_eq_true] at hb ⊢
    exact ⟨hb.1, (rtOk_name _).2 ⟨hn, ((rtOk_name _).1 hb.2).2⟩⟩
  · have : erR r ∈ p.fns.map erR := e2 ▸ List.mem_map.2 ⟨r, hr, rfl⟩
    obtain ⟨t, ht, e⟩ := List.mem_map.1 this
    have hb := c t ht
    have hn := h2 r hr
    obtain ⟨nm, pa, lo, co⟩ := r
    obtain ⟨nm', pa', lo', co'⟩ := t
    simp only [erR, Rt.mk.injEq, true_and] at e
    obtain ⟨rfl, rfl, rfl⟩ := e
    exact (rtOk_name _).2 ⟨hn, ((rtOk_name _).1 hb).2⟩
  · have f1 := congrArg sumS e1
    have f2 := congrArg sumR e2
    rw [sumS_er, sumS_er] at f1
    rw [sumR_er, sumR_er] at f2
    unfold sizeOf at d ⊢
    unfold sumS at f1
    unfold sumR at f2
    omega
theorem ok_not {q : Pg} (h : (∃ s ∈ q.sys, ¬ okN s.run.name) ∨ ∃ r ∈ q.fns, ¬ okN r.name) : mayOk q = false := by
  cases e : mayOk q with
  | false => rfl
  | true =>
    obtain ⟨-, a, b, -⟩ := mayOk_all e
    rcases h with ⟨s, hs, hn⟩ | ⟨r, hr, hn⟩
    · have := a s hs
      unfold sysOk at this
      simp only [Bool.and_eq_true] at this
      exact absurd ((rtOk_name _).1 this.2).1 hn
    · exact absurd ((rtOk_name _).1 (b r hr)).1 hn
end Go.Proofs.YtklamaibinjcmaaDoor

/-
  Verify: the law's set and row.
-/
namespace Go.Proofs.YtklamaibinjcmaaDoor
open Go.RowKit
set_option maxRecDepth 100000
/-- A block of its own, of a kind. -/
def Lk (e N : Nat) (W : World) (g : Nat) : Prop := N ≤ g ∧ ∃ cs, W.heap[g]? = some (.cells cs e (0, 0))
theorem Lk.lt {e N g : Nat} {W : World} (h : Lk e N W g) : g < W.heap.size := lt_of_block h.2.choose_spec
theorem Lk.later {e N g : Nat} {W W' : World} (h : Lk e N W g) (hb : Below W.heap.size W W') : Lk e N W' g := by
  obtain ⟨h1, cs, h2⟩ := h
  exact ⟨h1, cs, (hb.block g (lt_of_block h2)).trans h2⟩
theorem own_nl {w : World} {B g n c m : Nat} {l r : List Int} (h : w.ownsRow B 3 1 (.slice (some ⟨g, 0, none⟩) m c) m (zq (l ++ r))) (hn : n = l.length) (h6 : ∀ i ∈ l, I6 i) : Nl (fun j => j = g) w (.slice (some ⟨g, 0, none⟩) n c) l := by
  subst hn
  have hm : m = l.length + r.length := by have := h.1; rw [zq_len, List.length_append] at this; omega
  obtain ⟨h1, h2⟩ := own_cap h
  refine ⟨_, c, rfl, by omega, by unfold maxLen; omega, fun _ => ⟨g, 0, rfl, rfl, fun i hi => ⟨h6 _ (List.getElem_mem hi), ?_⟩⟩⟩
  rw [Nat.zero_add, h.cellAt i (by omega)]
  simp [zq, hi, List.getElem?_append_left]
theorem Nl.six {Q : Nat → Prop} {W : World} {v : Value} {l : List Int} (h : Nl Q W v l) : ∀ i ∈ l, I6 i := fun i hi => by
  obtain ⟨k, hk, rfl⟩ := List.getElem_of_mem hi
  obtain ⟨ao, c, rfl, -, -, h4⟩ := h
  obtain ⟨g, o, -, -, h5⟩ := h4 (by omega)
  exact (h5 k hk).1
theorem Il.six {Q : Nat → Prop} {W : World} {v : Value} {l : List Ins} (h : Il Q W v l) : ∀ i ∈ l, I6 i.op ∧ I6 i.a := fun i hi => by
  obtain ⟨k, hk, rfl⟩ := List.getElem_of_mem hi
  obtain ⟨ao, c, rfl, -, -, h4⟩ := h
  obtain ⟨g, o, -, -, h5⟩ := h4 (by omega)
  exact ⟨(h5 k hk).1, (h5 k hk).2.1⟩
set_option maxHeartbeats 4000000 in
theorem lset_any {Q : Nat → Prop} {w : World} {ao : Option Addr} {n c : Nat} (l : List Int) (h : Nl Q w (.slice ao n c) l) (hn : n = l.length) (hz : n ≤ 1000000) : Calls Tryd.prog 22 #[.slice ao n c] w fun e w' => ∃ g c', e = .returned (.slice (some ⟨g, 0, none⟩) n c') ∧ Lk 3 w.heap.size w' g ∧ Nl (fun j => j = g) w' (.slice (some ⟨g, 0, none⟩) n c') l ∧ n ≤ c' ∧ c' ≤ 9223372036854775807 ∧ Below w.heap.size w w' := by
  have H6 := hide h.six
  have HN := hide hn
  have H0 := hide h
  obtain ⟨ao', c', e, hc1, hc2⟩ := h.at
  injection e with e1 e2 e3
  subst e1 e3
  have hc1 : n ≤ c := by omega
  clear h hn e2
  go_enter Tryd.func22, Tryd.ntmps22
  go_wp2_with (at_builtin; refine appendNl rfl _ _ rfl w.heap.size _ 0 [] rfl (World.ownsRow_nil _ _ _ _) _ l rfl H0.out ?k1 (Nat.le_refl _) ?_)
  case k1 => have := HN.out; omega
  intro v1 w1 o1 g1
  replace o1 : w1.ownsRow w.heap.size 3 1 v1 n (zq l) := by rw [HN.out]; simpa using o1
  have B1 : Hid (Below w.heap.size w w1) := Below.grown (Below.refl _ _) g1 (Nat.le_refl _) (fun k e => by cases e)
  have O1 := hide o1
  obtain ⟨a1, c1, rfl⟩ := own_len o1
  clear o1 g1 H0
  go_upto_region 3 with fail
  have HL : Hid (Nl (fun _ => True) (w1.alloc (.cells #[.int .i64 77, .int .i64 77] 3)) (.slice (some ⟨w1.heap.size, 0, none⟩) 2 2) [77, 77]) := by
    have k : ∀ j, (w1.alloc (.cells #[.int .i64 77, .int .i64 77] 3)).cell? ⟨w1.heap.size, j, none⟩ = (#[Value.int .i64 77, .int .i64 77] : Array Value)[j]? := fun j => cell_of_row _ _ _ _ 3 (0, 0) (heap_alloc_new w1 _)
    refine ⟨_, 2, rfl, Nat.le_refl 2, by decide, fun _ => ⟨_, 0, rfl, trivial, fun i hi => ?_⟩⟩
    match i, hi with
    | 0, _ => exact ⟨(⟨by decide, by decide⟩ : I6 77), k 0⟩
    | 1, _ => exact ⟨(⟨by decide, by decide⟩ : I6 77), k 1⟩
  have BA := hide (below_on B1.out (below_alloc w1 (.cells #[.int .i64 77, .int .i64 77] 3)))
  go_wp2_with (at_builtin; refine appendNl rfl _ _ rfl w.heap.size _ n (zq l) rfl ?m0 _ [77, 77] rfl HL.out ?m1 ?m2 ?_)
  case m0 => exact O1.out.alloc _
  case m1 => show n + 2 ≤ _; omega
  case m2 => exact BA.out.size
  intro v2 w2 o2 g2
  have e2 : zq l ++ zq [77, 77] = zq (l ++ [77, 77]) := by simp [zq]
  replace o2 : w2.ownsRow w.heap.size 3 1 v2 (n + 2) (zq (l ++ [77, 77])) := by rw [← e2]; exact o2
  have B2 : Hid (Below w.heap.size w w2) := BA.out.grown g2 BA.out.size (fun k e => (O1.out.lt k e).1)
  have O2 := hide o2
  obtain ⟨g, c2, rfl⟩ : ∃ g c2, v2 = .slice (some ⟨g, 0, none⟩) (n + 2) c2 := by
    rcases o2.2 with ⟨-, e⟩ | ⟨g, cap, cur, rfl, -⟩
    · omega
    · exact ⟨g, cap, rfl⟩
  obtain ⟨q1, q2⟩ := own_cap o2
  have HK : Hid (Lk 3 w.heap.size w2 g) := ⟨(o2.lt g rfl).1, own_blk2 o2 rfl⟩
  clear o2 g2 O1 B1 BA HL e2
  have t1 : (n : Int) ≤ c2 := by omega
  go_wp2_with fail
  go_ret
  exact ⟨g, _, rfl, HK.out, own_nl O2.out HN.out H6.out, by omega, q2, B2.out⟩
end Go.Proofs.YtklamaibinjcmaaDoor

/-
  Verify: rows of structs; the law's row.
-/
namespace Go.Proofs.YtklamaibinjcmaaDoor
open Go.RowKit
set_option maxRecDepth 100000
/-- Structs, cell by cell. -/
def fl {α : Type} (f : α → List Value) (l : List α) : List Value := l.flatMap f
section
variable {α : Type} {f : α → List Value} {s : Nat}
theorem fl_len (hf : ∀ x, (f x).length = s) : ∀ l : List α, (fl f l).length = l.length * s
  | [] => by simp [fl]
  | x :: l => by
    have := fl_len hf l
    unfold fl at this ⊢
    rw [List.flatMap_cons, List.length_append, this, hf, List.length_cons, Nat.add_mul]
    omega
theorem fl_at (hf : ∀ x, (f x).length = s) : ∀ (l : List α) (k : Nat) (h : k < l.length) (j : Nat), j < s → (fl f l)[k * s + j]? = (f l[k])[j]?
  | x :: l, 0, _, j, hj => by
    show (f x ++ fl f l)[0 * s + j]? = (f x)[j]?
    rw [Nat.zero_mul, Nat.zero_add, List.getElem?_append_left (by rw [hf]; exact hj)]
  | x :: l, k + 1, h, j, hj => by
    show (f x ++ fl f l)[(k + 1) * s + j]? = _
    rw [Nat.add_mul, Nat.one_mul, List.getElem?_append_right (by rw [hf]; omega), hf, show k * s + s + j - s = k * s + j by omega, fl_at hf l k (by simpa using h) j hj]
    rfl
theorem fl_set (hf : ∀ x, (f x).length = s) : ∀ (l : List α) (k : Nat) (h : k < l.length) (j : Nat) (v : Value) (y : α), j < s → f y = (f l[k]).set j v → fl f (l.set k y) = (fl f l).set (k * s + j) v
  | x :: l, 0, _, j, v, y, hj, e => by
    have e' : f y = (f x).set j v := e
    show f y ++ fl f l = (f x ++ fl f l).set (0 * s + j) v
    rw [Nat.zero_mul, Nat.zero_add, List.set_append_left _ _ (by rw [hf]; exact hj), e']
  | x :: l, k + 1, h, j, v, y, hj, e => by
    show f x ++ fl f (l.set k y) = (f x ++ fl f l).set ((k + 1) * s + j) v
    rw [Nat.add_mul, Nat.one_mul, List.set_append_right _ _ (by rw [hf]; omega), hf, show k * s + s + j - s = k * s + j by omega, fl_set hf l k (by simpa using h) j v y hj e]
theorem fl_snoc (l : List α) (x : α) : fl f (l ++ [x]) = fl f l ++ f x := by simp [fl]
end
def inC (i : Ins) : List Value := [.int .i64 i.op, .int .i64 i.a]
theorem inC_len (i : Ins) : (inC i).length = 2 := rfl
theorem inC_one (l : List Ins) : ∀ u ∈ fl inC l, u.oneCell' = true := fun u hu => by
  obtain ⟨i, -, hu⟩ := List.mem_flatMap.1 hu
  simp only [inC, List.mem_cons, List.not_mem_nil, or_false] at hu
  rcases hu with rfl | rfl <;> rfl
theorem infoIns : (Tryd.prog.info? 47).map (fun i => (i.zero, i.size, i.bytes)) = some (some (.agg #[.int .i64 0, .int .i64 0]), 2, 16) := by kernel_rfl
/-- Instructions that are read, put behind an own row. -/
theorem appendIl {Q' : Nat → Prop} {w : World} {ops : Array Oper} {rest : List Oper} {o : Oper} {a : Act} {Q : Exit → Act → World → Prop} (hgd : o.guard = none) (s x : Operand)
    (ho : o.op = .call { callee := .builtin .append, args := #[s, x], argTypes := #[26, 26] })
    (base : Nat) (v : Value) (n : Nat) (xs : List Value) (hs : a.eval s = v) (hown : w.ownsRow base 47 2 v n xs) (vx : Value) (l : List Ins) (hx : a.eval x = vx) (hl : Il Q' w vx l) (hb : n + l.length ≤ 1000000000) (hbase : base ≤ w.heap.size)
    (h : ∀ v' w', w'.ownsRow base 47 2 v' (n + l.length) (xs ++ fl inC l) → w.grownBy w' v.ownBlock → wpList Tryd.prog ops Q rest (a.put o.dst v') w') :
    wpList Tryd.prog ops Q (o :: rest) a w := by
  refine wpList_plain hgd fun K hK => ?_
  obtain ⟨i0, hi, hz0, hz1, hz2⟩ := info_parts infoIns
  obtain ⟨ao, c, rfl, h1, h2, h3⟩ := hl
  have main : ∃ v' w', (Builtin.append_ #[26, 26] o.type #[v, .slice ao l.length c]).run Tryd.prog w = .ok v' w' ∧ w'.ownsRow base 47 2 v' (n + l.length) (xs ++ fl inC l) ∧ w.grownBy w' v.ownBlock := by
    cases ao with
    | none =>
      obtain rfl : l = [] := by
        cases l with
        | nil => rfl
        | cons y t =>
          obtain ⟨g, o, e, -⟩ := h3 (by simp)
          cases e
      refine ⟨v, w, ?_, by simpa [fl] using hown, World.grownBy.refl _ _⟩
      rcases hown.2 with ⟨rfl, rfl⟩ | ⟨g, cap, cur, rfl, _, _, hnc, _⟩
      · simp [Builtin.append_, run_underlying Tryd.underlying26, typeInfo, hi, Builtin.lenOf, Builtin.firstCells]
      · simp [Builtin.append_, run_underlying Tryd.underlying26, typeInfo, hi, Builtin.lenOf, Builtin.firstCells, hnc, storeCells]
    | some ad =>
      obtain ⟨v', w', hr, a2, a3, -, -⟩ := run_append_own_at (P := Tryd.prog) w base 26 o.type 47 i0 (.agg #[.int .i64 0, .int .i64 0]) 2 16 Tryd.underlying26 hi hz0 hz1 hz2 rfl (by decide) v n xs hown ad l.length c (fl inC l) (by rw [fl_len inC_len]) (fun j u hj => by
        have hj2 : j < l.length * 2 := by
          have := (List.getElem?_eq_some_iff.1 hj).1
          rwa [fl_len inC_len] at this
        obtain ⟨g', o', e3, -, z4⟩ := h3 (by omega)
        obtain rfl := Option.some.inj e3
        obtain ⟨-, -, d0, d1⟩ := z4 (j / 2) (by omega)
        have hj3 := fl_at inC_len l (j / 2) (by omega) (j % 2) (by omega)
        rw [show j / 2 * 2 + j % 2 = j by omega, hj] at hj3
        rw [show (⟨g', o', none⟩ : Addr).add j = ⟨g', o' + j, none⟩ by simp [Addr.add]]
        rcases Nat.mod_two_eq_zero_or_one j with e | e
        · rw [e] at hj3
          rw [show o' + j = o' + j / 2 * 2 by omega, d0, hj3]
          rfl
        · rw [e] at hj3
          rw [show o' + j = o' + j / 2 * 2 + 1 by omega, d1, hj3]
          rfl) (inC_one l) (by unfold maxLen; omega) (by omega) hbase
      exact ⟨v', w', hr, a2, a3⟩
  obtain ⟨v', w', hr, h2', h3'⟩ := main
  unfold Oper.wp execOp
  simp only [ho, resolve, invoke, builtin, Sem.run_bind, Sem.run_pure, Result.andThen_ok, List.map_toArray, List.map_cons, List.map_nil, hs, hx, hr]
  exact hK _ _ (h v' w' h2' h3')
theorem own_il {w : World} {B g n c m : Nat} {l r : List Ins} (h : w.ownsRow B 47 2 (.slice (some ⟨g, 0, none⟩) m c) m (fl inC (l ++ r))) (hn : n = l.length) (h6 : ∀ i ∈ l, I6 i.op ∧ I6 i.a) : Il (fun j => j = g) w (.slice (some ⟨g, 0, none⟩) n c) l := by
  subst hn
  have hm : m = l.length + r.length := by have := h.1; rw [fl_len inC_len, List.length_append] at this; omega
  obtain ⟨h1, h2⟩ := own_cap h
  refine ⟨_, c, rfl, by omega, by unfold maxLen; omega, fun _ => ⟨g, 0, rfl, rfl, fun i hi => ?_⟩⟩
  have hi2 : i < (l ++ r).length := by rw [List.length_append]; omega
  obtain ⟨a, b⟩ := h6 _ (List.getElem_mem hi)
  refine ⟨a, b, ?_, ?_⟩
  · rw [Nat.zero_add, h.cellAt _ (by omega)]
    have := fl_at inC_len (l ++ r) i hi2 0 (by omega)
    rw [List.getElem_append_left hi] at this
    exact this
  · rw [Nat.zero_add, h.cellAt _ (by omega)]
    have := fl_at inC_len (l ++ r) i hi2 1 (by omega)
    rw [List.getElem_append_left hi] at this
    exact this
def i77 (l : List Ins) (i : Nat) : List Ins := l ++ List.replicate i ⟨77, 0⟩
theorem i77_on (l : List Ins) (i : Nat) : fl inC (i77 l i) ++ fl inC [⟨77, 0⟩] = fl inC (i77 l (i + 1)) := by
  unfold i77
  rw [List.replicate_succ', ← List.append_assoc, fl_snoc]
  simp [fl]
set_option maxHeartbeats 4000000 in
theorem lrow_any {Q : Nat → Prop} {w : World} {ao : Option Addr} {n c : Nat} (l : List Ins) (h : Il Q w (.slice ao n c) l) (hn : n = l.length) (hz : n ≤ 1000000) : Calls Tryd.prog 8 #[.slice ao n c] w fun e w' => ∃ g c', e = .returned (.slice (some ⟨g, 0, none⟩) n c') ∧ Lk 47 w.heap.size w' g ∧ Il (fun j => j = g) w' (.slice (some ⟨g, 0, none⟩) n c') l ∧ n ≤ c' ∧ c' ≤ 9223372036854775807 ∧ Below w.heap.size w w' := by
  have H6 := hide h.six
  have HN := hide hn
  have H0 := hide h
  obtain ⟨hc1, hc2⟩ : n ≤ c ∧ c ≤ 9223372036854775807 := by
    obtain ⟨ao', c', e, hc1, hc2, -⟩ := h
    injection e with e1 e2 e3
    unfold maxLen at hc2
    omega
  clear h hn
  go_enter Tryd.func8, Tryd.ntmps8
  go_wp2_with (at_builtin; refine appendIl rfl _ _ rfl w.heap.size _ 0 [] rfl (World.ownsRow_nil _ _ _ _) _ l rfl H0.out ?k1 (Nat.le_refl _) ?_)
  case k1 => have := HN.out; omega
  intro v1 w1 o1 g1
  have B1 : Hid (Below w.heap.size w w1) := Below.grown (Below.refl _ _) g1 (Nat.le_refl _) (fun k e => by cases e)
  have O1 : Hid (w1.ownsRow w.heap.size 47 2 v1 (n + 0) (fl inC (i77 l 0))) := by unfold Hid i77; rw [HN.out]; simpa using o1
  clear o1 g1 H0
  go_upto_region 3 with fail
  go_wp2_with fail
  go_loopw [3, 4] (fun v3 v4 W => ∃ i : Nat, i ≤ 8 ∧ v4 = .int .i64 (i : Int) ∧ Hid (W.ownsRow w.heap.size 47 2 v3 (n + i) (fl inC (i77 l i))) ∧ Hid (Below w.heap.size w W)) (fun _ v4 _ => 8 - (intOf v4).toNat)
  case atStart => exact ⟨0, by omega, rfl, O1, B1⟩
  case round =>
    obtain ⟨i, hi, rfl, HO, HB⟩ := hrel
    obtain ⟨m, hm⟩ : ∃ m, m = n + i := ⟨_, rfl⟩
    have HM := hide hm
    rw [← hm] at HO
    obtain ⟨a3, c3, rfl⟩ := own_len HO.out
    obtain ⟨q1, q2⟩ := own_cap HO.out
    by_cases hlt : i < 8
    · have t1 : (i : Int) < 8 := by omega
      have HL : Hid (Il (fun _ => True) (wr.alloc (.cells #[.int .i64 77, .int .i64 0] 47)) (.slice (some ⟨wr.heap.size, 0, none⟩) 1 1) [⟨77, 0⟩]) := by
        have k : ∀ j, (wr.alloc (.cells #[.int .i64 77, .int .i64 0] 47)).cell? ⟨wr.heap.size, j, none⟩ = (#[Value.int .i64 77, .int .i64 0] : Array Value)[j]? := fun j => cell_of_row _ _ _ _ 47 (0, 0) (heap_alloc_new wr _)
        refine ⟨_, 1, rfl, Nat.le_refl 1, by decide, fun _ => ⟨_, 0, rfl, trivial, fun i hi => ?_⟩⟩
        match i, hi with
        | 0, _ => exact ⟨(⟨by decide, by decide⟩ : I6 77), (⟨by decide, by decide⟩ : I6 0), k 0, k 1⟩
      have BA := hide (below_on HB.out (below_alloc wr (.cells #[.int .i64 77, .int .i64 0] 47)))
      clear hm
      go_wp2_with (at_builtin; refine appendIl rfl _ _ rfl w.heap.size _ m (fl inC (i77 l i)) rfl ?m0 _ [⟨77, 0⟩] rfl HL.out ?m1 ?m2 ?_)
      case m0 => exact HO.out.alloc _
      case m1 => have := HM.out; show m + 1 ≤ _; omega
      case m2 => exact BA.out.size
      intro v2 w2 o2 g2
      have B2 : Hid (Below w.heap.size w w2) := BA.out.grown g2 BA.out.size (fun k e => (HO.out.lt k e).1)
      have O2 : Hid (w2.ownsRow w.heap.size 47 2 v2 (n + (i + 1)) (fl inC (i77 l (i + 1)))) := by
        unfold Hid
        rw [← i77_on, show n + (i + 1) = m + 1 by have := HM.out; omega]
        exact o2
      clear o2 g2 HO HB BA HL
      go_wp2_with fail
      go_roundw
      case rel => exact ⟨i + 1, by omega, by go_num, O2, B2⟩
      case measure => show 8 - (intOf (.int .i64 ((i : Int) + 1))).toNat < 8 - (intOf (.int .i64 (i : Int))).toNat; simp only [intOf]; omega
    · have e8 : i = 8 := by omega
      subst e8
      have HK : Hid (∃ g, a3 = some ⟨g, 0, none⟩) := by
        rcases HO.out.2 with ⟨e, e'⟩ | ⟨g, cap, cur, e, -⟩
        · have := HM.out
          have : m = 0 := by injection e
          omega
        · injection e with e1
          exact ⟨g, e1⟩
      obtain ⟨g, rfl⟩ := HK.out
      have t1 : ((8 : Nat) : Int) = 8 := rfl
      have t2 : (n : Int) ≤ c3 := by have := HM.out; omega
      have HK2 : Hid (Lk 47 w.heap.size wr g) := ⟨(HO.out.lt g rfl).1, own_blk2 HO.out rfl⟩
      clear hm HK
      rw [t1]
      go_wp2_with fail
      go_ret
      exact ⟨g, _, rfl, HK2.out, own_il HO.out HN.out H6.out, by omega, q2, HB.out⟩
end Go.Proofs.YtklamaibinjcmaaDoor

/-
  Verify: a program of one's own in memory.
-/
namespace Go.Proofs.YtklamaibinjcmaaDoor
open Go.RowKit
set_option maxRecDepth 100000
/-- A system's lists. -/
structure Lv where
  v1 : Value
  v2 : Value
  v3 : Value
  v4 : Value
  vc : Value
def lvC (x : Sy × Lv) : List Value := [x.2.v1, x.2.v2, x.2.v3, x.2.v4, .string x.1.run.name, .int .i64 x.1.run.pa, .int .i64 x.1.run.lo, x.2.vc]
def rwC (x : Rt × Value) : List Value := [.string x.1.name, .int .i64 x.1.pa, .int .i64 x.1.lo, x.2]
theorem lvC_len (x : Sy × Lv) : (lvC x).length = 8 := rfl
theorem rwC_len (x : Rt × Value) : (rwC x).length = 4 := rfl
/-- A block of a list. -/
def Li (N : Nat) (W : World) (j : Nat) : Prop := Lk 3 N W j ∨ Lk 47 N W j
section
variable {N : Nat} {W W' : World} {S : Nat → Prop}
theorem Lk.mv {e j : Nat} (h : Lk e N W j) (hm : Mv W W' S) (hs : ¬ S j) : Lk e N W' j := by
  obtain ⟨h1, cs, h2⟩ := h
  exact ⟨h1, cs, hm.at h2 hs⟩
theorem Li.mv {j : Nat} (h : Li N W j) (hm : Mv W W' S) (hs : ¬ S j) : Li N W' j := h.elim (fun h => .inl (h.mv hm hs)) (fun h => .inr (h.mv hm hs))
theorem Li.not {j e B s n : Nat} {v : Value} {xs : List Value} (h : Li N W j) (ho : W.ownsRow B e s v n xs) (h1 : e ≠ 3) (h2 : e ≠ 47) : ¬ v.ownBlock = some j := fun e' => by
  obtain ⟨cs, hc⟩ := own_blk2 ho e'
  rcases h with ⟨-, ds, hd⟩ | ⟨-, ds, hd⟩ <;> rw [hc] at hd <;> injection hd with hd <;> injection hd with hd hd2
  · exact h1 hd2
  · exact h2 hd2
theorem Nl.li {v : Value} {l : List Int} (h : Nl (Li N W) W v l) (hm : Mv W W' S) (hs : ∀ j, Li N W j → ¬ S j) : Nl (Li N W') W' v l := by
  obtain ⟨ao, c, h1, h2, h3, h4⟩ := h
  refine ⟨ao, c, h1, h2, h3, fun h0 => ?_⟩
  obtain ⟨g, o, h5, h6, h7⟩ := h4 h0
  refine ⟨g, o, h5, h6.mv hm (hs g h6), fun i hi => ?_⟩
  obtain ⟨a, b⟩ := h7 i hi
  exact ⟨a, hm.cell b (hs g h6)⟩
theorem Il.li {v : Value} {l : List Ins} (h : Il (Li N W) W v l) (hm : Mv W W' S) (hs : ∀ j, Li N W j → ¬ S j) : Il (Li N W') W' v l := by
  obtain ⟨ao, c, h1, h2, h3, h4⟩ := h
  refine ⟨ao, c, h1, h2, h3, fun h0 => ?_⟩
  obtain ⟨g, o, h5, h6, h7⟩ := h4 h0
  refine ⟨g, o, h5, h6.mv hm (hs g h6), fun i hi => ?_⟩
  obtain ⟨a, b, c, d⟩ := h7 i hi
  exact ⟨a, b, hm.cell c (hs g h6), hm.cell d (hs g h6)⟩
structure SyL (N : Nat) (W : World) (x : Sy × Lv) : Prop where
  pa : I6 x.1.run.pa
  lo : I6 x.1.run.lo
  wi : Nl (Li N W) W x.2.v1 x.1.wi
  wo : Nl (Li N W) W x.2.v2 x.1.wo
  re : Nl (Li N W) W x.2.v3 x.1.re
  wr : Nl (Li N W) W x.2.v4 x.1.wr
  co : Il (Li N W) W x.2.vc x.1.run.code
structure RtL (N : Nat) (W : World) (x : Rt × Value) : Prop where
  pa : I6 x.1.pa
  lo : I6 x.1.lo
  co : Il (Li N W) W x.2 x.1.code
theorem SyL.mv {x : Sy × Lv} (h : SyL N W x) (hm : Mv W W' S) (hs : ∀ j, Li N W j → ¬ S j) : SyL N W' x := ⟨h.pa, h.lo, h.wi.li hm hs, h.wo.li hm hs, h.re.li hm hs, h.wr.li hm hs, h.co.li hm hs⟩
theorem RtL.mv {x : Rt × Value} (h : RtL N W x) (hm : Mv W W' S) (hs : ∀ j, Li N W j → ¬ S j) : RtL N W' x := ⟨h.pa, h.lo, h.co.li hm hs⟩
theorem Nl.oc {Q : Nat → Prop} {v : Value} {l : List Int} (h : Nl Q W v l) : v.oneCell' = true := by
  obtain ⟨ao, c, rfl, -⟩ := h
  rfl
theorem Il.oc {Q : Nat → Prop} {v : Value} {l : List Ins} (h : Il Q W v l) : v.oneCell' = true := by
  obtain ⟨ao, c, rfl, -⟩ := h
  rfl
theorem SyL.one {x : Sy × Lv} (h : SyL N W x) : ∀ u ∈ lvC x, u.oneCell' = true := fun u hu => by
  simp only [lvC, List.mem_cons, List.not_mem_nil, or_false] at hu
  rcases hu with rfl | rfl | rfl | rfl | rfl | rfl | rfl | rfl
  · exact h.wi.oc
  · exact h.wo.oc
  · exact h.re.oc
  · exact h.wr.oc
  · rfl
  · rfl
  · rfl
  · exact h.co.oc
theorem RtL.one {x : Rt × Value} (h : RtL N W x) : ∀ u ∈ rwC x, u.oneCell' = true := fun u hu => by
  simp only [rwC, List.mem_cons, List.not_mem_nil, or_false] at hu
  rcases hu with rfl | rfl | rfl | rfl
  · rfl
  · rfl
  · rfl
  · exact h.co.oc
/-- The systems. -/
structure LS (N : Nat) (W : World) (vs : Value) (ls : List (Sy × Lv)) : Prop where
  row : W.ownsRow N 60 8 vs ls.length (fl lvC ls)
  all : ∀ x ∈ ls, SyL N W x
structure LF (N : Nat) (W : World) (vf : Value) (lf : List (Rt × Value)) : Prop where
  row : W.ownsRow N 28 4 vf lf.length (fl rwC lf)
  all : ∀ x ∈ lf, RtL N W x
variable {vs vf v' : Value} {ls : List (Sy × Lv)} {lf : List (Rt × Value)}
theorem LS.mv (h : LS N W vs ls) (hm : Mv W W' S) (hs : ∀ j, Li N W j → ¬ S j) (hv : ∀ j, vs.ownBlock = some j → ¬ S j) : LS N W' vs ls := ⟨hm.own h.row hv, fun x hx => (h.all x hx).mv hm hs⟩
theorem LF.mv (h : LF N W vf lf) (hm : Mv W W' S) (hs : ∀ j, Li N W j → ¬ S j) (hv : ∀ j, vf.ownBlock = some j → ¬ S j) : LF N W' vf lf := ⟨hm.own h.row hv, fun x hx => (h.all x hx).mv hm hs⟩
theorem LS.later (h : LS N W vs ls) (hb : Below W.heap.size W W') : LS N W' vs ls := h.mv (Mv.of_below hb (fun _ => False)) (fun _ _ e => e) (fun _ _ e => e)
theorem LF.later (h : LF N W vf lf) (hb : Below W.heap.size W W') : LF N W' vf lf := h.mv (Mv.of_below hb (fun _ => False)) (fun _ _ e => e) (fun _ _ e => e)
theorem LS.nil : LS N W (.slice none 0 0) [] := ⟨World.ownsRow_nil _ _ _ _, fun x hx => absurd hx (by simp)⟩
theorem LF.nil : LF N W (.slice none 0 0) [] := ⟨World.ownsRow_nil _ _ _ _, fun x hx => absurd hx (by simp)⟩
theorem mv_grown {row : Option Nat} (hg : W.grownBy W' row) : Mv W W' (fun j => row = some j) := (Mv.refl W _).grown hg (fun _ _ e => e)
/-- One more. -/
theorem LS.push {x : Sy × Lv} (h : LS N W vs ls) (hx : SyL N W x) (ho : W'.ownsRow N 60 8 v' (ls.length + 1) (fl lvC ls ++ lvC x)) (hg : W.grownBy W' vs.ownBlock) : LS N W' v' (ls ++ [x]) := by
  have key : ∀ y, SyL N W y → SyL N W' y := fun y hy => hy.mv (mv_grown hg) (fun j hj => hj.not h.row (by decide) (by decide))
  refine ⟨?_, fun y hy => ?_⟩
  · rw [List.length_append, List.length_singleton, fl_snoc]
    exact ho
  · rcases List.mem_append.1 hy with hy | hy
    · exact key y (h.all y hy)
    · obtain rfl := List.mem_singleton.1 hy
      exact key _ hx
theorem LF.push {x : Rt × Value} (h : LF N W vf lf) (hx : RtL N W x) (ho : W'.ownsRow N 28 4 v' (lf.length + 1) (fl rwC lf ++ rwC x)) (hg : W.grownBy W' vf.ownBlock) : LF N W' v' (lf ++ [x]) := by
  have key : ∀ y, RtL N W y → RtL N W' y := fun y hy => hy.mv (mv_grown hg) (fun j hj => hj.not h.row (by decide) (by decide))
  refine ⟨?_, fun y hy => ?_⟩
  · rw [List.length_append, List.length_singleton, fl_snoc]
    exact ho
  · rcases List.mem_append.1 hy with hy | hy
    · exact key y (h.all y hy)
    · obtain rfl := List.mem_singleton.1 hy
      exact key _ hx
/-- The other row stays. -/
theorem LS.grown {B e s n : Nat} {v : Value} {xs : List Value} (h : LS N W vs ls) (ho : W.ownsRow B e s v n xs) (h1 : e ≠ 3) (h2 : e ≠ 47) (h3 : e ≠ 60) (hg : W.grownBy W' v.ownBlock) : LS N W' vs ls := h.mv (mv_grown hg) (fun _j hj => hj.not ho h1 h2) (fun j e1 e2 => own_ap2 h.row ho (fun e => h3 e.symm) j e1 e2)
theorem LF.grown {B e s n : Nat} {v : Value} {xs : List Value} (h : LF N W vf lf) (ho : W.ownsRow B e s v n xs) (h1 : e ≠ 3) (h2 : e ≠ 47) (h3 : e ≠ 28) (hg : W.grownBy W' v.ownBlock) : LF N W' vf lf := h.mv (mv_grown hg) (fun _j hj => hj.not ho h1 h2) (fun j e1 e2 => own_ap2 h.row ho (fun e => h3 e.symm) j e1 e2)
theorem own_cut8 {B g c m k e s : Nat} {xs : List Value} (h : W.ownsRow B e s (.slice (some ⟨g, 0, none⟩) m c) m xs) (hk : k ≤ m) : W.ownsRow B e s (.slice (some ⟨g, 0, none⟩) k c) k (xs.take (k * s)) := by
  have hlen := h.1
  have hks : k * s ≤ m * s := Nat.mul_le_mul_right s hk
  rcases h.2 with ⟨h', _⟩ | ⟨gv', c', cur, h', hb, hg, h1, h2, h3, h4⟩
  · simp at h'
  · simp only [Value.slice.injEq, Option.some.injEq, Addr.mk.injEq, and_true, true_and] at h'
    obtain ⟨rfl, rfl⟩ := h'
    refine ⟨by rw [List.length_take]; omega, .inr ⟨g, c, cur, rfl, hb, hg, by omega, h2, h3, ?_⟩⟩
    rw [← h4, List.take_take]
    congr 1
    omega
theorem LS.cut {B c g : Nat} {xs : List Value} (h : LS N W vs ls) (ho : W'.ownsRow N 60 8 (.slice (some ⟨g, 0, none⟩) (ls.length + 1) c) (ls.length + 1) (fl lvC ls ++ xs)) (hg : W.grownBy W' vs.ownBlock) (hB : B = ls.length) : LS N W' (.slice (some ⟨g, 0, none⟩) B c) ls := by
  subst hB
  refine ⟨?_, fun y hy => (h.all y hy).mv (mv_grown hg) (fun j hj => hj.not h.row (by decide) (by decide))⟩
  have := own_cut8 (k := ls.length) ho (by omega)
  rw [← fl_len lvC_len, List.take_left] at this
  exact this
theorem LF.cut {B c g : Nat} {xs : List Value} (h : LF N W vf lf) (ho : W'.ownsRow N 28 4 (.slice (some ⟨g, 0, none⟩) (lf.length + 1) c) (lf.length + 1) (fl rwC lf ++ xs)) (hg : W.grownBy W' vf.ownBlock) (hB : B = lf.length) : LF N W' (.slice (some ⟨g, 0, none⟩) B c) lf := by
  subst hB
  refine ⟨?_, fun y hy => (h.all y hy).mv (mv_grown hg) (fun j hj => hj.not h.row (by decide) (by decide))⟩
  have := own_cut8 (k := lf.length) ho (by omega)
  rw [← fl_len rwC_len, List.take_left] at this
  exact this
/-- As it is read. -/
theorem LS.sys (h : LS N W vs ls) : Sys (fun _ => True) W vs (ls.map Prod.fst) := by
  obtain ⟨ao, c, rfl⟩ := own_len h.row
  obtain ⟨c1, c2⟩ := own_cap h.row
  refine ⟨ao, c, by rw [List.length_map], by rw [List.length_map]; exact c1, by unfold maxLen; omega, fun h0 => ?_⟩
  rw [List.length_map] at h0
  obtain ⟨g, c', e, -⟩ := own_form h.row h0
  injection e with e1 e2 e3
  subst e1
  refine ⟨g, 0, rfl, trivial, fun i hi => ?_⟩
  rw [List.length_map] at hi
  have hx := h.all _ (List.getElem_mem hi)
  have key : ∀ j, j < 8 → W.cell? ⟨g, i * 8 + j, none⟩ = (lvC ls[i])[j]? := fun j hj => (h.row.cellAt _ (by omega)).trans (fl_at lvC_len ls i hi j hj)
  rw [List.getElem_map, Nat.zero_add]
  exact ⟨hx.pa, hx.lo, _, _, _, _, _, key 0 (by omega), key 1 (by omega), key 2 (by omega), key 3 (by omega), key 4 (by omega), key 5 (by omega), key 6 (by omega), key 7 (by omega), hx.wi.mono (fun _ _ => trivial), hx.wo.mono (fun _ _ => trivial), hx.re.mono (fun _ _ => trivial), hx.wr.mono (fun _ _ => trivial), hx.co.mono (fun _ _ => trivial)⟩
theorem LF.rts (h : LF N W vf lf) : Rts (fun _ => True) W vf (lf.map Prod.fst) := by
  obtain ⟨ao, c, rfl⟩ := own_len h.row
  obtain ⟨c1, c2⟩ := own_cap h.row
  refine ⟨ao, c, by rw [List.length_map], by rw [List.length_map]; exact c1, by unfold maxLen; omega, fun h0 => ?_⟩
  rw [List.length_map] at h0
  obtain ⟨g, c', e, -⟩ := own_form h.row h0
  injection e with e1 e2 e3
  subst e1
  refine ⟨g, 0, rfl, trivial, fun i hi => ?_⟩
  rw [List.length_map] at hi
  have hx := h.all _ (List.getElem_mem hi)
  have key : ∀ j, j < 4 → W.cell? ⟨g, i * 4 + j, none⟩ = (rwC lf[i])[j]? := fun j hj => (h.row.cellAt _ (by omega)).trans (fl_at rwC_len lf i hi j hj)
  rw [List.getElem_map, Nat.zero_add]
  exact ⟨hx.pa, hx.lo, _, key 0 (by omega), key 1 (by omega), key 2 (by omega), key 3 (by omega), hx.co.mono (fun _ _ => trivial)⟩
theorem own_put {g c n k e s B : Nat} {xs : List Value} {u : Value} (h : W.ownsRow B e s (.slice (some ⟨g, 0, none⟩) n c) n xs) : (W.setCell ⟨g, k, none⟩ u).ownsRow B e s (.slice (some ⟨g, 0, none⟩) n c) n (xs.set k u) := by
  have hlen := h.1
  rcases h.2 with ⟨h', _⟩ | ⟨gv', c', cur, h', hb, hg, h1, h2, h3, h4⟩
  · simp at h'
  · simp only [Value.slice.injEq, Option.some.injEq, Addr.mk.injEq, and_true, true_and] at h'
    obtain ⟨rfl, rfl⟩ := h'
    refine ⟨by rw [List.length_set]; exact hlen, .inr ⟨g, c, _, rfl, hb, heap_setCell_same W g k _ e u hg, h1, h2, by simpa using h3, ?_⟩⟩
    rw [← h4, ← List.take_set]
    simp
/-- Another name. -/
def nmL (n : ByteArray) (x : Sy × Lv) : Sy × Lv := (nmS n x.1, x.2)
def nmF (n : ByteArray) (x : Rt × Value) : Rt × Value := (nmR n x.1, x.2)
theorem LS.name {g c n k : Nat} (h : LS N W (.slice (some ⟨g, 0, none⟩) n c) ls) (hn : n = ls.length) (hk : k < ls.length) (nm : ByteArray) : LS N (W.setCell ⟨g, k * 8 + 4, none⟩ (.string nm)) (.slice (some ⟨g, 0, none⟩) n c) (ls.set k (nmL nm ls[k])) := by
  subst hn
  have hm : Mv W (W.setCell ⟨g, k * 8 + 4, none⟩ (.string nm)) (fun j => (Value.slice (some ⟨g, 0, none⟩) ls.length c).ownBlock = some j) := (Mv.refl W _).grown (grown_set W g _ _) (fun _ _ e => e)
  refine ⟨?_, fun x hx => ?_⟩
  · rw [List.length_set, fl_set lvC_len ls k hk 4 (.string nm) _ (by omega) rfl]
    exact own_put h.row
  · have key : ∀ y, SyL N W y → SyL N (W.setCell ⟨g, k * 8 + 4, none⟩ (.string nm)) y := fun y hy => hy.mv hm (fun j hj => hj.not h.row (by decide) (by decide))
    rcases List.mem_or_eq_of_mem_set hx with hx | rfl
    · exact key x (h.all x hx)
    · have := key _ (h.all _ (List.getElem_mem hk))
      exact ⟨this.pa, this.lo, this.wi, this.wo, this.re, this.wr, this.co⟩
theorem LF.name {g c n k : Nat} (h : LF N W (.slice (some ⟨g, 0, none⟩) n c) lf) (hn : n = lf.length) (hk : k < lf.length) (nm : ByteArray) : LF N (W.setCell ⟨g, k * 4, none⟩ (.string nm)) (.slice (some ⟨g, 0, none⟩) n c) (lf.set k (nmF nm lf[k])) := by
  subst hn
  have hm : Mv W (W.setCell ⟨g, k * 4, none⟩ (.string nm)) (fun j => (Value.slice (some ⟨g, 0, none⟩) lf.length c).ownBlock = some j) := (Mv.refl W _).grown (grown_set W g _ _) (fun _ _ e => e)
  refine ⟨?_, fun x hx => ?_⟩
  · have := fl_set rwC_len lf k hk 0 (.string nm) (nmF nm lf[k]) (by omega) rfl
    rw [List.length_set, this]
    exact own_put h.row
  · have key : ∀ y, RtL N W y → RtL N (W.setCell ⟨g, k * 4, none⟩ (.string nm)) y := fun y hy => hy.mv hm (fun j hj => hj.not h.row (by decide) (by decide))
    rcases List.mem_or_eq_of_mem_set hx with hx | rfl
    · exact key x (h.all x hx)
    · have := key _ (h.all _ (List.getElem_mem hk))
      exact ⟨this.pa, this.lo, this.co⟩
end
end Go.Proofs.YtklamaibinjcmaaDoor

/-
  Verify: the law's lent.
-/
namespace Go.Proofs.YtklamaibinjcmaaDoor
open Go.RowKit
set_option maxRecDepth 100000
/-- A system that is copied, list by list. -/
structure Sp (N : Nat) (w0 W : World) (gs : Nat) (x : Lv) (s : Sy) (d : Nat) : Prop where
  blk : W.heap[gs]? = some (.cells #[x.v1, x.v2, x.v3, x.v4, .string s.run.name, .int .i64 s.run.pa, .int .i64 s.run.lo, x.vc] 60 (0, 0))
  bel : Below w0.heap.size w0 W
  ge : w0.heap.size ≤ gs
  a1 : 1 ≤ d → Nl (Li N W) W x.v1 s.wi
  a2 : 2 ≤ d → Nl (Li N W) W x.v2 s.wo
  a3 : 3 ≤ d → Nl (Li N W) W x.v3 s.re
  a4 : 4 ≤ d → Nl (Li N W) W x.v4 s.wr
  a5 : 5 ≤ d → Il (Li N W) W x.vc s.run.code
theorem Li.notb {N j g t : Nat} {W : World} {cs : Array Value} (h : Li N W j) (hg : W.heap[g]? = some (.cells cs t (0, 0))) (h1 : t ≠ 3) (h2 : t ≠ 47) : ¬ j = g := fun e => by
  subst e
  rcases h with ⟨-, ds, hd⟩ | ⟨-, ds, hd⟩ <;> rw [hg] at hd <;> injection hd with hd <;> injection hd with hd hd2
  · exact h1 hd2
  · exact h2 hd2
theorem mv_set (W : World) (g k : Nat) (u : Value) : Mv W (W.setCell ⟨g, k, none⟩ u) (fun j => j = g) := (Mv.refl W (fun j => j = g)).set rfl k u
section
variable {N : Nat} {w0 W w' : World} {gs : Nat} {x : Lv} {s : Sy} {d : Nat} {y : Value}
theorem Sp.cells (h : Sp N w0 W gs x s d) : W.cell? ⟨gs, 0, none⟩ = some x.v1 ∧ W.cell? ⟨gs, 1, none⟩ = some x.v2 ∧ W.cell? ⟨gs, 2, none⟩ = some x.v3 ∧ W.cell? ⟨gs, 3, none⟩ = some x.v4 ∧ W.cell? ⟨gs, 4, none⟩ = some (.string s.run.name) ∧ W.cell? ⟨gs, 5, none⟩ = some (.int .i64 s.run.pa) ∧ W.cell? ⟨gs, 6, none⟩ = some (.int .i64 s.run.lo) ∧ W.cell? ⟨gs, 7, none⟩ = some x.vc := row8 h.blk
theorem Sp.later (h : Sp N w0 W gs x s d) (hb : Below W.heap.size W w') : Sp N w0 w' gs x s d := by
  have hm := Mv.of_below hb (fun _ => False)
  have hs : ∀ j, Li N W j → ¬ False := fun _ _ e => e
  exact ⟨(hb.block _ (lt_of_block h.blk)).trans h.blk, below_on h.bel hb, h.ge, fun e => (h.a1 e).li hm hs, fun e => (h.a2 e).li hm hs, fun e => (h.a3 e).li hm hs, fun e => (h.a4 e).li hm hs, fun e => (h.a5 e).li hm hs⟩
theorem Sp.bels (h : Sp N w0 W gs x s d) (k : Nat) (u : Value) : Below w0.heap.size w0 (W.setCell ⟨gs, k, none⟩ u) := h.bel.setCell h.ge u
theorem Sp.next1 (h : Sp N w0 W gs x s 0) (hy : Nl (Li N W) W y s.wi) : Sp N w0 (W.setCell ⟨gs, 0, none⟩ y) gs ⟨y, x.v2, x.v3, x.v4, x.vc⟩ s 1 := by
  have hm := mv_set W gs 0 y
  have hs : ∀ j, Li N W j → ¬ j = gs := fun j hj => hj.notb h.blk (by decide) (by decide)
  exact ⟨by rw [heap_setCell_same W gs 0 _ 60 y h.blk]; rfl, h.bels _ _, h.ge, fun _ => hy.li hm hs, fun e => absurd e (by omega), fun e => absurd e (by omega), fun e => absurd e (by omega), fun e => absurd e (by omega)⟩
theorem Sp.next2 (h : Sp N w0 W gs x s 1) (hy : Nl (Li N W) W y s.wo) : Sp N w0 (W.setCell ⟨gs, 1, none⟩ y) gs ⟨x.v1, y, x.v3, x.v4, x.vc⟩ s 2 := by
  have hm := mv_set W gs 1 y
  have hs : ∀ j, Li N W j → ¬ j = gs := fun j hj => hj.notb h.blk (by decide) (by decide)
  exact ⟨by rw [heap_setCell_same W gs 1 _ 60 y h.blk]; rfl, h.bels _ _, h.ge, fun _ => (h.a1 (by omega)).li hm hs, fun _ => hy.li hm hs, fun e => absurd e (by omega), fun e => absurd e (by omega), fun e => absurd e (by omega)⟩
theorem Sp.next3 (h : Sp N w0 W gs x s 2) (hy : Nl (Li N W) W y s.re) : Sp N w0 (W.setCell ⟨gs, 2, none⟩ y) gs ⟨x.v1, x.v2, y, x.v4, x.vc⟩ s 3 := by
  have hm := mv_set W gs 2 y
  have hs : ∀ j, Li N W j → ¬ j = gs := fun j hj => hj.notb h.blk (by decide) (by decide)
  exact ⟨by rw [heap_setCell_same W gs 2 _ 60 y h.blk]; rfl, h.bels _ _, h.ge, fun _ => (h.a1 (by omega)).li hm hs, fun _ => (h.a2 (by omega)).li hm hs, fun _ => hy.li hm hs, fun e => absurd e (by omega), fun e => absurd e (by omega)⟩
theorem Sp.next4 (h : Sp N w0 W gs x s 3) (hy : Nl (Li N W) W y s.wr) : Sp N w0 (W.setCell ⟨gs, 3, none⟩ y) gs ⟨x.v1, x.v2, x.v3, y, x.vc⟩ s 4 := by
  have hm := mv_set W gs 3 y
  have hs : ∀ j, Li N W j → ¬ j = gs := fun j hj => hj.notb h.blk (by decide) (by decide)
  exact ⟨by rw [heap_setCell_same W gs 3 _ 60 y h.blk]; rfl, h.bels _ _, h.ge, fun _ => (h.a1 (by omega)).li hm hs, fun _ => (h.a2 (by omega)).li hm hs, fun _ => (h.a3 (by omega)).li hm hs, fun _ => hy.li hm hs, fun e => absurd e (by omega)⟩
theorem Sp.next5 (h : Sp N w0 W gs x s 4) (hy : Il (Li N W) W y s.run.code) : Sp N w0 (W.setCell ⟨gs, 7, none⟩ y) gs ⟨x.v1, x.v2, x.v3, x.v4, y⟩ s 5 := by
  have hm := mv_set W gs 7 y
  have hs : ∀ j, Li N W j → ¬ j = gs := fun j hj => hj.notb h.blk (by decide) (by decide)
  exact ⟨by rw [heap_setCell_same W gs 7 _ 60 y h.blk]; rfl, h.bels _ _, h.ge, fun _ => (h.a1 (by omega)).li hm hs, fun _ => (h.a2 (by omega)).li hm hs, fun _ => (h.a3 (by omega)).li hm hs, fun _ => (h.a4 (by omega)).li hm hs, fun _ => hy.li hm hs⟩
theorem Sp.done (h : Sp N w0 W gs x s 5) (h1 : I6 s.run.pa) (h2 : I6 s.run.lo) : SyL N W (s, x) := ⟨h1, h2, h.a1 (by omega), h.a2 (by omega), h.a3 (by omega), h.a4 (by omega), h.a5 (by omega)⟩
end
/-- What is lent so far. -/
structure Lq (N : Nat) (w W : World) (gp gr gq : Nat) (vp1 vp2 vs vf : Value) (ls : List (Sy × Lv)) (lf : List (Rt × Value)) : Prop where
  p : W.heap[gp]? = some (.cells #[vp1, vp2] 25 (0, 0))
  r : W.heap[gr]? = some (.cells #[.slice none 0 0, .slice none 0 0] 25 (0, 0))
  q : W.heap[gq]? = some (.cells #[vs, vf] 25 (0, 0))
  s : LS N W vs ls
  f : LF N W vf lf
  b : Below w.heap.size w W
  n : N = w.heap.size ∧ N ≤ gp ∧ gp < gr ∧ gr < gq
section
variable {N : Nat} {w W W' : World} {gp gr gq : Nat} {vp1 vp2 vs vf u : Value} {ls : List (Sy × Lv)} {lf : List (Rt × Value)} {S : Nat → Prop}
theorem Lq.later (h : Lq N w W gp gr gq vp1 vp2 vs vf ls lf) (hb : Below W.heap.size W W') : Lq N w W' gp gr gq vp1 vp2 vs vf ls lf := ⟨(hb.block _ (lt_of_block h.p)).trans h.p, (hb.block _ (lt_of_block h.r)).trans h.r, (hb.block _ (lt_of_block h.q)).trans h.q, h.s.later hb, h.f.later hb, below_on h.b hb, h.n⟩
theorem Lq.cells (h : Lq N w W gp gr gq vp1 vp2 vs vf ls lf) : W.cell? ⟨gp, 0, none⟩ = some vp1 ∧ W.cell? ⟨gp, 1, none⟩ = some vp2 ∧ W.cell? ⟨gq, 0, none⟩ = some vs ∧ W.cell? ⟨gq, 1, none⟩ = some vf := by
  refine ⟨?_, ?_, ?_, ?_⟩
  · rw [cell_of_row W _ _ _ 25 (0, 0) h.p]; rfl
  · rw [cell_of_row W _ _ _ 25 (0, 0) h.p]; rfl
  · rw [cell_of_row W _ _ _ 25 (0, 0) h.q]; rfl
  · rw [cell_of_row W _ _ _ 25 (0, 0) h.q]; rfl
theorem notPg {B e s n g : Nat} {v : Value} {xs : List Value} {cs : Array Value} (h : W.ownsRow B e s v n xs) (hg : W.heap[g]? = some (.cells cs 25 (0, 0))) (he : e ≠ 25) : v.ownBlock ≠ some g := fun e' => by
  obtain ⟨cur, hc⟩ := own_blk2 h e'
  rw [hg] at hc
  injection hc with hc
  injection hc with hc hc2
  exact he hc2.symm
/-- The rows turn, and the variable is told. -/
theorem Lq.putS {ls' : List (Sy × Lv)} (h : Lq N w W gp gr gq vp1 vp2 vs vf ls lf) (hg : W.grownBy W' vs.ownBlock) (hs : LS N W' u ls') : Lq N w (W'.setCell ⟨gq, 0, none⟩ u) gp gr gq vp1 vp2 u vf ls' lf := by
  obtain ⟨n1, n2, n3, n4⟩ := h.n
  have hm := mv_grown hg
  have k : ∀ {g : Nat} {cs : Array Value}, W.heap[g]? = some (.cells cs 25 (0, 0)) → W'.heap[g]? = some (.cells cs 25 (0, 0)) := fun hx => hm.at hx (notPg h.s.row hx (by decide))
  have hq := k h.q
  have hf := h.f.grown h.s.row (by decide) (by decide) (by decide) hg
  have m2 := mv_set W' gq 0 u
  have li : ∀ j, Li N W' j → ¬ j = gq := fun j hj => hj.notb hq (by decide) (by decide)
  refine ⟨m2.at (k h.p) (by omega), m2.at (k h.r) (by omega), by rw [heap_setCell_same W' gq 0 _ 25 u hq]; rfl, hs.mv m2 li ?_, hf.mv m2 li ?_, ?_, h.n⟩
  · rintro j e rfl
    exact notPg hs.row hq (by decide) e
  · rintro j e rfl
    exact notPg hf.row hq (by decide) e
  · exact (h.b.grown hg h.b.size (fun k e => by have := (h.s.row.lt k e).1; omega)).setCell (by show _ ≤ gq; omega) u
theorem Lq.putF {lf' : List (Rt × Value)} (h : Lq N w W gp gr gq vp1 vp2 vs vf ls lf) (hg : W.grownBy W' vf.ownBlock) (hf : LF N W' u lf') : Lq N w (W'.setCell ⟨gq, 1, none⟩ u) gp gr gq vp1 vp2 vs u ls lf' := by
  obtain ⟨n1, n2, n3, n4⟩ := h.n
  have hm := mv_grown hg
  have k : ∀ {g : Nat} {cs : Array Value}, W.heap[g]? = some (.cells cs 25 (0, 0)) → W'.heap[g]? = some (.cells cs 25 (0, 0)) := fun hx => hm.at hx (notPg h.f.row hx (by decide))
  have hq := k h.q
  have hs := h.s.grown h.f.row (by decide) (by decide) (by decide) hg
  have m2 := mv_set W' gq 1 u
  have li : ∀ j, Li N W' j → ¬ j = gq := fun j hj => hj.notb hq (by decide) (by decide)
  refine ⟨m2.at (k h.p) (by omega), m2.at (k h.r) (by omega), by rw [heap_setCell_same W' gq 1 _ 25 u hq]; rfl, hs.mv m2 li ?_, hf.mv m2 li ?_, ?_, h.n⟩
  · rintro j e rfl
    exact notPg hs.row hq (by decide) e
  · rintro j e rfl
    exact notPg hf.row hq (by decide) e
  · exact (h.b.grown hg h.b.size (fun k e => by have := (h.f.row.lt k e).1; omega)).setCell (by show _ ≤ gq; omega) u
end
end Go.Proofs.YtklamaibinjcmaaDoor
