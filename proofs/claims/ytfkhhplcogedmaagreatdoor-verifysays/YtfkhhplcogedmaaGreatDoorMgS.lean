import Derived.Test.YtfkhhplcogedmaaGreatDoorMgP
import Derived.Test.YtfkhhplcogedmaaGreatDoorMgQ
/-
  Verify: names do not count, plain.
-/
namespace Go.Proofs.YtfkhhplcogedmaaGreatDoor
open Go.RowKit
set_option maxRecDepth 100000
/-- A program without its names. -/
def erR (r : Rt) : Rt := ⟨ByteArray.empty, r.pa, r.lo, r.code⟩
def erS (s : Sy) : Sy := ⟨s.wi, s.wo, s.re, s.wr, erR s.run⟩
def erP (p : Pg) : Pg := ⟨p.sys.map erS, p.fns.map erR⟩
def erO (r : Ro) : Ro := ⟨erR r.rt, r.pl, r.sy, r.re, r.wr⟩
theorem sumS_er (l : List Sy) : sumS (l.map erS) = sumS l := by
  unfold sumS
  rw [List.map_map]
  rfl
theorem sumR_er (l : List Rt) : sumR (l.map erR) = sumR l := by
  unfold sumR
  rw [List.map_map]
  rfl
theorem rosOf_er (p : Pg) : rosOf (erP p) = (rosOf p).map erO := by
  unfold rosOf roS roF erP
  dsimp only
  rw [List.map_append]
  congr 1
  · apply List.ext_getElem
    · simp
    · intro i h1 h2
      simp only [List.getElem_mapIdx, List.getElem_map, ← List.map_take, sumS_er]
      rfl
  · apply List.ext_getElem
    · simp
    · intro i h1 h2
      simp only [List.getElem_mapIdx, List.getElem_map, ← List.map_take, sumR_er, sumS_er]
      rfl
theorem takE_er (fs : List Rt) (i : Ins) : takE (fs.map erR) i = takE fs i := by
  unfold takE parE
  rw [List.length_map, List.map_map]
  rfl
theorem behI_er (fs : List Rt) : behI (fs.map erR) = behI fs := by
  funext c p d
  unfold behI
  rw [takE_er]
theorem rch_er (fs : List Rt) (c : List Ins) : ∀ k p d, rch (fs.map erR) c k p d ↔ rch fs c k p d
  | 0, _, _ => Iff.rfl
  | k + 1, p, d => by
    unfold rch
    rw [behI_er]
    constructor
    · rintro ⟨p', d', h1, h2, h3⟩
      exact ⟨p', d', (rch_er fs c k p' d').1 h1, h2, h3⟩
    · rintro ⟨p', d', h1, h2, h3⟩
      exact ⟨p', d', (rch_er fs c k p' d').2 h1, h2, h3⟩
theorem Rch_er (fs : List Rt) : Rch (fs.map erR) = Rch fs := by
  funext c p d
  exact propext ⟨fun ⟨k, h⟩ => ⟨k, (rch_er fs c k p d).1 h⟩, fun ⟨k, h⟩ => ⟨k, (rch_er fs c k p d).2 h⟩⟩
theorem Rcd_er (fs : List Rt) : Rcd (fs.map erR) = Rcd fs := by
  funext c p
  unfold Rcd
  rw [Rch_er]
theorem wrR_er (a b e : Int) (fs : List Rt) : wrR a b e (fs.map erR) = wrR a b e fs := by
  funext c p
  have h : Bad (fs.map erR) c p ↔ Bad fs c p := by
    unfold Bad
    rw [Rch_er, behI_er]
  unfold wrR
  by_cases hb : Bad fs c p
  · rw [if_pos hb, if_pos (h.2 hb)]
  · rw [if_neg hb, if_neg (fun e => hb (h.1 e))]
theorem Dpo_er (a b e : Int) (fs : List Rt) : Dpo a b e (fs.map erR) = Dpo a b e fs := by
  funext c o
  unfold Dpo
  rw [wrR_er, Rcd_er]
theorem cls_er (fs : List Rt) : cls (fs.map erR) = cls fs := by
  unfold cls
  rw [List.map_map]
  rfl
theorem DaO_er (fs : List Rt) (l : List Ro) (o : Option (Int × Int)) : DaO (fs.map erR) (l.map erO) o ↔ DaO fs l o := by
  unfold DaO RD
  simp only [Dpo_er, wrR_er, List.length_map, List.getElem_map]
  exact Iff.rfl
theorem RnO_er (fs : List Rt) (l : List Ro) (o : Option (Int × Int)) : RnO (fs.map erR) (l.map erO) o ↔ RnO fs l o := by
  have h : ∀ r, RnB (fs.map erR) (erO r) = RnB fs r := fun r => by
    funext a
    unfold RnB
    rw [Rcd_er]
    rfl
  unfold RnO
  simp only [h, List.length_map, List.getElem_map]
  exact Iff.rfl
theorem TcO_er (nf : Nat) (ks : List Kind) (l : List Ro) (o : Option (Int × Int)) : TcO nf ks (l.map erO) o ↔ TcO nf ks l o := by
  have h : ∀ r, TB nf ks (erO r) = TB nf ks r := fun r => rfl
  have h2 : ∀ r a, tbE nf ks (erO r) a = tbE nf ks r a := fun r a => rfl
  unfold TcO RBad
  simp only [h, h2, List.length_map, List.getElem_map]
  exact Iff.rfl
theorem SetBad_er (nk : Nat) (l : List Sy) : SetBad nk (l.map erS) = SetBad nk l := by
  funext n
  unfold SetBad
  simp only [List.length_map, List.getElem_map]
  exact propext Iff.rfl
theorem plOf_er (p : Pg) (n : Nat) : plOf (erP p) n = plOf p n := by
  unfold plOf
  rw [rosOf_er, List.getElem?_map, Option.map_map]
  rfl
theorem Vo2_er (p : Pg) (ks : List Kind) (o : Option (Int × Int)) : Vo2 (erP p) ks o ↔ Vo2 p ks o := by
  have e1 : (erP p).sys = p.sys.map erS := rfl
  have e2 : (erP p).fns = p.fns.map erR := rfl
  unfold Vo2 Vo3 Vo4 Vo5
  simp only [plOf_er, rosOf_er, e1, e2, SetBad_er, TcO_er, DaO_er, RnO_er, cls_er, List.length_map]
/-! ### One answer -/
theorem TcO.unique {nf : Nat} {ks : List Kind} {l : List Ro} {o o' : Option (Int × Int)} (h : TcO nf ks l o) (h' : TcO nf ks l o') : o = o' := by
  have key : ∀ n a (hn : n < l.length), Fst l[n].rt.code.length (TB nf ks l[n]) (some a) → RBad nf ks l n := fun n a hn f => ⟨hn, a, f.1, f.2.1⟩
  rcases h with ⟨rfl, h1⟩ | ⟨n, a, hn, h1, h2, rfl⟩
  · rcases h' with ⟨rfl, -⟩ | ⟨m, b, hm, -, h3, -⟩
    · rfl
    · exact absurd (key m b hm h3) (h1 m hm)
  · rcases h' with ⟨-, h3⟩ | ⟨m, b, hm, h3, h4, rfl⟩
    · exact absurd (key n a hn h2) (h3 n hn)
    · rcases Nat.lt_trichotomy n m with c | c | c
      · exact absurd (key n a hn h2) (h3 n c)
      · subst c
        obtain rfl := Option.some.inj (h2.unique h4 fun _ _ => Iff.rfl)
        rfl
      · exact absurd (key m b hm h4) (h1 m c)
theorem RnO.unique {fs : List Rt} {l : List Ro} {o o' : Option (Int × Int)} (h : RnO fs l o) (h' : RnO fs l o') : o = o' := by
  rcases h with ⟨rfl, h1⟩ | ⟨n, a, hn, h1, h2, rfl⟩
  · rcases h' with ⟨rfl, -⟩ | ⟨m, b, hm, -, h3, -⟩
    · rfl
    · exact absurd h3.2.1 (h1 m hm b h3.1)
  · rcases h' with ⟨-, h3⟩ | ⟨m, b, hm, h3, h4, rfl⟩
    · exact absurd h2.2.1 (h3 n hn a h2.1)
    · rcases Nat.lt_trichotomy n m with c | c | c
      · exact absurd h2.2.1 (h3 n c a h2.1)
      · subst c
        obtain rfl := Option.some.inj (h2.unique h4 fun _ _ => Iff.rfl)
        rfl
      · exact absurd h4.2.1 (h1 m c b h4.1)
theorem DaO.unique {fs : List Rt} {l : List Ro} {o o' : Option (Int × Int)} (h : DaO fs l o) (h' : DaO fs l o') : o = o' := by
  have key : ∀ {c : List Ins} {P : Prop} {f : Nat → Prop}, ((c = [] ∧ P) ∨ ∃ a, c ≠ [] ∧ Dpo 150 151 153 fs c (some a) ∧ f a) → ¬ RD fs c := by
    intro c P f h hr
    rcases h with ⟨e, -⟩ | ⟨a, -, e, -⟩
    · exact hr.1 e
    · exact hr.2 a e.1 e.2.1
  rcases h with ⟨rfl, h1⟩ | ⟨n, hn, h1, h2⟩
  · rcases h' with ⟨rfl, -⟩ | ⟨m, hm, -, h3⟩
    · rfl
    · exact absurd (h1 m hm) (key h3)
  · rcases h' with ⟨-, h3⟩ | ⟨m, hm, h3, h4⟩
    · exact absurd (h3 n hn) (key h2)
    · rcases Nat.lt_trichotomy n m with c | c | c
      · exact absurd (h3 n c) (key h2)
      · subst c
        rcases h2 with ⟨e, rfl⟩ | ⟨a, e, e1, rfl⟩
        · rcases h4 with ⟨-, rfl⟩ | ⟨b, e', -⟩
          · rfl
          · exact absurd e e'
        · rcases h4 with ⟨e', -⟩ | ⟨b, -, e2, rfl⟩
          · exact absurd e' e
          · obtain rfl := Option.some.inj (Fst.unique e1 e2 fun _ _ => Iff.rfl)
            rfl
      · exact absurd (h1 m c) (key h4)
theorem Vo2.unique {p : Pg} {ks : List Kind} {o o' : Option (Int × Int)} (h : Vo2 p ks o) (h' : Vo2 p ks o') : o = o' := by
  obtain ⟨a, h1, h2⟩ := h
  obtain ⟨a', h1', h2'⟩ := h'
  obtain rfl := h1.unique h1' fun _ _ => Iff.rfl
  rcases h2 with ⟨n, rfl, rfl⟩ | ⟨rfl, b, h3, h4⟩
  · rcases h2' with ⟨m, e, rfl⟩ | ⟨e, -⟩
    · obtain rfl := Option.some.inj e
      rfl
    · cases e
  rcases h2' with ⟨m, e, -⟩ | ⟨-, b', h3', h4'⟩
  · cases e
  obtain rfl := h3.unique h3'
  rcases h4 with ⟨x, rfl, rfl⟩ | ⟨rfl, c, h5, h6⟩
  · rcases h4' with ⟨y, e, rfl⟩ | ⟨e, -⟩
    · exact e
    · cases e
  rcases h4' with ⟨y, e, -⟩ | ⟨-, c', h5', h6'⟩
  · cases e
  obtain rfl := h5.unique h5' fun _ _ => Iff.rfl
  rcases h6 with ⟨n, rfl, rfl⟩ | ⟨rfl, d, h7, h8⟩
  · rcases h6' with ⟨m, e, rfl⟩ | ⟨e, -⟩
    · obtain rfl := Option.some.inj e
      rfl
    · cases e
  rcases h6' with ⟨m, e, -⟩ | ⟨-, d', h7', h8'⟩
  · cases e
  obtain rfl := h7.unique h7'
  rcases h8 with ⟨x, rfl, rfl⟩ | ⟨rfl, h9⟩
  · rcases h8' with ⟨y, e, rfl⟩ | ⟨e, -⟩
    · exact e
    · cases e
  rcases h8' with ⟨y, e, -⟩ | ⟨-, h9'⟩
  · cases e
  exact h9.unique h9'
/-- What may be written but for its names: the same answer. -/
theorem vo_names {p q : Pg} {ks : List Kind} {o o' : Option (Int × Int)} (h : Vo p ks o) (h' : Vo q ks o') (he : erP p = erP q) (hp : mayOk p = true) (hq : mayOk q = true) : o = o' := by
  rcases h with ⟨h1, rfl⟩ | ⟨-, h1, -⟩ | ⟨h1, -, h2⟩
  · rcases h' with ⟨-, rfl⟩ | ⟨h2, -⟩ | ⟨h2, -⟩
    · rfl
    · exact absurd h2 h1
    · exact absurd h2 h1
  · rw [hp] at h1
    cases h1
  · rcases h' with ⟨h3, -⟩ | ⟨-, h3, -⟩ | ⟨-, -, h3⟩
    · exact absurd h1 h3
    · rw [hq] at h3
      cases h3
    · have a := (Vo2_er p ks o).2 h2
      rw [he] at a
      exact a.unique ((Vo2_er q ks o').2 h3)
theorem vo_bad {q : Pg} {ks : List Kind} {o : Option (Int × Int)} (h : Vo q ks o) (hk : mayB ks) (hq : mayOk q = false) : o = some (0, 130) := by
  rcases h with ⟨h1, -⟩ | ⟨-, -, rfl⟩ | ⟨-, h1, -⟩
  · exact absurd hk h1
  · rfl
  · rw [hq] at h1
    cases h1
/-! ### Other names -/
def nmR (n : ByteArray) (r : Rt) : Rt := ⟨n, r.pa, r.lo, r.code⟩
def nmS (n : ByteArray) (s : Sy) : Sy := ⟨s.wi, s.wo, s.re, s.wr, nmR n s.run⟩
def okN (n : ByteArray) : Prop := 1 ≤ n.size ∧ n.size ≤ 16
theorem rtOk_name (r : Rt) : rtOk r = true ↔ okN r.name ∧ (decide (0 ≤ r.pa ∧ r.pa ≤ 4) && decide (r.pa ≤ r.lo ∧ r.lo ≤ 32) && decide (r.code.length ≤ 2000) && r.code.all isIns) = true := by
  unfold rtOk okN
  simp only [Bool.and_eq_true, decide_eq_true_iff]
  constructor
  · rintro ⟨⟨⟨⟨a, b⟩, c⟩, d⟩, e⟩
    exact ⟨a, ⟨⟨b, c⟩, d⟩, e⟩
  · rintro ⟨a, ⟨⟨b, c⟩, d⟩, e⟩
    exact ⟨⟨⟨⟨a, b⟩, c⟩, d⟩, e⟩
/-- The same but for the names. -/
theorem ok_same {p q : Pg} (he : erP p = erP q) (hp : mayOk p = true) (h1 : ∀ s ∈ q.sys, okN s.run.name) (h2 : ∀ r ∈ q.fns, okN r.name) : mayOk q = true := by
  have e1 : p.sys.map erS = q.sys.map erS := congrArg Pg.sys he
  have e2 : p.fns.map erR = q.fns.map erR := congrArg Pg.fns he
  unfold mayOk at hp ⊢
  simp only [Bool.and_eq_true, decide_eq_true_iff, List.all_eq_true] at hp ⊢
  obtain ⟨⟨⟨a, b⟩, c⟩, d⟩ := hp
  have l1 : p.sys.length = q.sys.length := by simpa using congrArg List.length e1
  have l2 : p.fns.length = q.fns.length := by simpa using congrArg List.length e2
  refine ⟨⟨⟨by omega, fun s hs => ?_⟩, fun r hr => ?_⟩, ?_⟩
  · have : erS s ∈ p.sys.map erS := e1 ▸ List.mem_map.2 ⟨s, hs, rfl⟩
    obtain ⟨t, ht, e⟩ := List.mem_map.1 this
    have hb := b t ht
    have hn := h1 s hs
    obtain ⟨w1, w2, w3, w4, ⟨nm, pa, lo, co⟩⟩ := s
    obtain ⟨u1, u2, u3, u4, ⟨nm', pa', lo', co'⟩⟩ := t
    simp only [erS, erR, Sy.mk.injEq, Rt.mk.injEq, true_and] at e
    obtain ⟨rfl, rfl, rfl, rfl, rfl, rfl, rfl⟩ := e
    unfold sysOk at hb ⊢
    simp only [Bool.and_eq_true] at hb ⊢
    exact ⟨hb.1, (rtOk_name _).2 ⟨hn, ((rtOk_name _).1 hb.2).2⟩⟩
  · have : erR r ∈ p.fns.map erR := e2 ▸ List.mem_map.2 ⟨r, hr, rfl⟩
    obtain ⟨t, ht, e⟩ := List.mem_map.1 this
    have hb := c t ht
    have hn := h2 r hr
    obtain ⟨nm, pa, lo, co⟩ := r
    obtain ⟨nm', pa', lo', co'⟩ := t
    simp only [erR, Rt.mk.injEq, true_and] at e
    obtain ⟨rfl, rfl, rfl⟩ := e
    exact (rtOk_name _).2 ⟨hn, ((rtOk_name _).1 hb).2⟩
  · have f1 := congrArg sumS e1
    have f2 := congrArg sumR e2
    rw [sumS_er, sumS_er] at f1
    rw [sumR_er, sumR_er] at f2
    unfold sizeOf at d ⊢
    unfold sumS at f1
    unfold sumR at f2
    omega
theorem ok_not {q : Pg} (h : (∃ s ∈ q.sys, ¬ okN s.run.name) ∨ ∃ r ∈ q.fns, ¬ okN r.name) : mayOk q = false := by
  cases e : mayOk q with
  | false => rfl
  | true =>
    obtain ⟨-, a, b, -⟩ := mayOk_all e
    rcases h with ⟨s, hs, hn⟩ | ⟨r, hr, hn⟩
    · have := a s hs
      unfold sysOk at this
      simp only [Bool.and_eq_true] at this
      exact absurd ((rtOk_name _).1 this.2).1 hn
    · exact absurd ((rtOk_name _).1 (b r hr)).1 hn
end Go.Proofs.YtfkhhplcogedmaaGreatDoor

/-
  Verify: the law's set and row.
-/
namespace Go.Proofs.YtfkhhplcogedmaaGreatDoor
open Go.RowKit
set_option maxRecDepth 100000
/-- A block of its own, of a kind. -/
def Lk (e N : Nat) (W : World) (g : Nat) : Prop := N ≤ g ∧ ∃ cs, W.heap[g]? = some (.cells cs e (0, 0))
theorem Lk.lt {e N g : Nat} {W : World} (h : Lk e N W g) : g < W.heap.size := lt_of_block h.2.choose_spec
theorem Lk.later {e N g : Nat} {W W' : World} (h : Lk e N W g) (hb : Below W.heap.size W W') : Lk e N W' g := by
  obtain ⟨h1, cs, h2⟩ := h
  exact ⟨h1, cs, (hb.block g (lt_of_block h2)).trans h2⟩
theorem own_nl {w : World} {B g n c m : Nat} {l r : List Int} (h : w.ownsRow B 3 1 (.slice (some ⟨g, 0, none⟩) m c) m (zq (l ++ r))) (hn : n = l.length) (h6 : ∀ i ∈ l, I6 i) : Nl (fun j => j = g) w (.slice (some ⟨g, 0, none⟩) n c) l := by
  subst hn
  have hm : m = l.length + r.length := by have := h.1; rw [zq_len, List.length_append] at this; omega
  obtain ⟨h1, h2⟩ := own_cap h
  refine ⟨_, c, rfl, by omega, by unfold maxLen; omega, fun _ => ⟨g, 0, rfl, rfl, fun i hi => ⟨h6 _ (List.getElem_mem hi), ?_⟩⟩⟩
  rw [Nat.zero_add, h.cellAt i (by omega)]
  simp [zq, hi, List.getElem?_append_left]
theorem Nl.six {Q : Nat → Prop} {W : World} {v : Value} {l : List Int} (h : Nl Q W v l) : ∀ i ∈ l, I6 i := fun i hi => by
  obtain ⟨k, hk, rfl⟩ := List.getElem_of_mem hi
  obtain ⟨ao, c, rfl, -, -, h4⟩ := h
  obtain ⟨g, o, -, -, h5⟩ := h4 (by omega)
  exact (h5 k hk).1
theorem Il.six {Q : Nat → Prop} {W : World} {v : Value} {l : List Ins} (h : Il Q W v l) : ∀ i ∈ l, I6 i.op ∧ I6 i.a := fun i hi => by
  obtain ⟨k, hk, rfl⟩ := List.getElem_of_mem hi
  obtain ⟨ao, c, rfl, -, -, h4⟩ := h
  obtain ⟨g, o, -, -, h5⟩ := h4 (by omega)
  exact ⟨(h5 k hk).1, (h5 k hk).2.1⟩
set_option maxHeartbeats 4000000 in
theorem lset_any {Q : Nat → Prop} {w : World} {ao : Option Addr} {n c : Nat} (l : List Int) (h : Nl Q w (.slice ao n c) l) (hn : n = l.length) (hz : n ≤ 1000000) : Calls Tryz.prog 13 #[.slice ao n c] w fun e w' => ∃ g c', e = .returned (.slice (some ⟨g, 0, none⟩) n c') ∧ Lk 3 w.heap.size w' g ∧ Nl (fun j => j = g) w' (.slice (some ⟨g, 0, none⟩) n c') l ∧ n ≤ c' ∧ c' ≤ 9223372036854775807 ∧ Below w.heap.size w w' := by
  have H6 := hide h.six
  have HN := hide hn
  have H0 := hide h
  obtain ⟨ao', c', e, hc1, hc2⟩ := h.at
  injection e with e1 e2 e3
  subst e1 e3
  have hc1 : n ≤ c := by omega
  clear h hn e2
  go_enter Tryz.func13, Tryz.ntmps13
  go_wp2_with (at_builtin; refine appendNl rfl _ _ rfl w.heap.size _ 0 [] rfl (World.ownsRow_nil _ _ _ _) _ l rfl H0.out ?k1 (Nat.le_refl _) ?_)
  case k1 => have := HN.out; omega
  intro v1 w1 o1 g1
  replace o1 : w1.ownsRow w.heap.size 3 1 v1 n (zq l) := by rw [HN.out]; simpa using o1
  have B1 : Hid (Below w.heap.size w w1) := Below.grown (Below.refl _ _) g1 (Nat.le_refl _) (fun k e => by cases e)
  have O1 := hide o1
  obtain ⟨a1, c1, rfl⟩ := own_len o1
  clear o1 g1 H0
  go_upto_region 3 with fail
  have HL : Hid (Nl (fun _ => True) (w1.alloc (.cells #[.int .i64 77, .int .i64 77] 3)) (.slice (some ⟨w1.heap.size, 0, none⟩) 2 2) [77, 77]) := by
    have k : ∀ j, (w1.alloc (.cells #[.int .i64 77, .int .i64 77] 3)).cell? ⟨w1.heap.size, j, none⟩ = (#[Value.int .i64 77, .int .i64 77] : Array Value)[j]? := fun j => cell_of_row _ _ _ _ 3 (0, 0) (heap_alloc_new w1 _)
    refine ⟨_, 2, rfl, Nat.le_refl 2, by decide, fun _ => ⟨_, 0, rfl, trivial, fun i hi => ?_⟩⟩
    match i, hi with
    | 0, _ => exact ⟨(⟨by decide, by decide⟩ : I6 77), k 0⟩
    | 1, _ => exact ⟨(⟨by decide, by decide⟩ : I6 77), k 1⟩
  have BA := hide (below_on B1.out (below_alloc w1 (.cells #[.int .i64 77, .int .i64 77] 3)))
  go_wp2_with (at_builtin; refine appendNl rfl _ _ rfl w.heap.size _ n (zq l) rfl ?m0 _ [77, 77] rfl HL.out ?m1 ?m2 ?_)
  case m0 => exact O1.out.alloc _
  case m1 => show n + 2 ≤ _; omega
  case m2 => exact BA.out.size
  intro v2 w2 o2 g2
  have e2 : zq l ++ zq [77, 77] = zq (l ++ [77, 77]) := by simp [zq]
  replace o2 : w2.ownsRow w.heap.size 3 1 v2 (n + 2) (zq (l ++ [77, 77])) := by rw [← e2]; exact o2
  have B2 : Hid (Below w.heap.size w w2) := BA.out.grown g2 BA.out.size (fun k e => (O1.out.lt k e).1)
  have O2 := hide o2
  obtain ⟨g, c2, rfl⟩ : ∃ g c2, v2 = .slice (some ⟨g, 0, none⟩) (n + 2) c2 := by
    rcases o2.2 with ⟨-, e⟩ | ⟨g, cap, cur, rfl, -⟩
    · omega
    · exact ⟨g, cap, rfl⟩
  obtain ⟨q1, q2⟩ := own_cap o2
  have HK : Hid (Lk 3 w.heap.size w2 g) := ⟨(o2.lt g rfl).1, own_blk2 o2 rfl⟩
  clear o2 g2 O1 B1 BA HL e2
  have t1 : (n : Int) ≤ c2 := by omega
  go_wp2_with fail
  go_ret
  exact ⟨g, _, rfl, HK.out, own_nl O2.out HN.out H6.out, by omega, q2, B2.out⟩
end Go.Proofs.YtfkhhplcogedmaaGreatDoor

/-
  Verify: rows of structs; the law's row.
-/
namespace Go.Proofs.YtfkhhplcogedmaaGreatDoor
open Go.RowKit
set_option maxRecDepth 100000
/-- Structs, cell by cell. -/
def fl {α : Type} (f : α → List Value) (l : List α) : List Value := l.flatMap f
section
variable {α : Type} {f : α → List Value} {s : Nat}
theorem fl_len (hf : ∀ x, (f x).length = s) : ∀ l : List α, (fl f l).length = l.length * s
  | [] => by simp [fl]
  | x :: l => by
    have := fl_len hf l
    unfold fl at this ⊢
    rw [List.flatMap_cons, List.length_append, this, hf, List.length_cons, Nat.add_mul]
    omega
theorem fl_at (hf : ∀ x, (f x).length = s) : ∀ (l : List α) (k : Nat) (h : k < l.length) (j : Nat), j < s → (fl f l)[k * s + j]? = (f l[k])[j]?
  | x :: l, 0, _, j, hj => by
    show (f x ++ fl f l)[0 * s + j]? = (f x)[j]?
    rw [Nat.zero_mul, Nat.zero_add, List.getElem?_append_left (by rw [hf]; exact hj)]
  | x :: l, k + 1, h, j, hj => by
    show (f x ++ fl f l)[(k + 1) * s + j]? = _
    rw [Nat.add_mul, Nat.one_mul, List.getElem?_append_right (by rw [hf]; omega), hf, show k * s + s + j - s = k * s + j by omega, fl_at hf l k (by simpa using h) j hj]
    rfl
theorem fl_set (hf : ∀ x, (f x).length = s) : ∀ (l : List α) (k : Nat) (h : k < l.length) (j : Nat) (v : Value) (y : α), j < s → f y = (f l[k]).set j v → fl f (l.set k y) = (fl f l).set (k * s + j) v
  | x :: l, 0, _, j, v, y, hj, e => by
    have e' : f y = (f x).set j v := e
    show f y ++ fl f l = (f x ++ fl f l).set (0 * s + j) v
    rw [Nat.zero_mul, Nat.zero_add, List.set_append_left _ _ (by rw [hf]; exact hj), e']
  | x :: l, k + 1, h, j, v, y, hj, e => by
    show f x ++ fl f (l.set k y) = (f x ++ fl f l).set ((k + 1) * s + j) v
    rw [Nat.add_mul, Nat.one_mul, List.set_append_right _ _ (by rw [hf]; omega), hf, show k * s + s + j - s = k * s + j by omega, fl_set hf l k (by simpa using h) j v y hj e]
theorem fl_snoc (l : List α) (x : α) : fl f (l ++ [x]) = fl f l ++ f x := by simp [fl]
end
def inC (i : Ins) : List Value := [.int .i64 i.op, .int .i64 i.a]
theorem inC_len (i : Ins) : (inC i).length = 2 := rfl
theorem inC_one (l : List Ins) : ∀ u ∈ fl inC l, u.oneCell' = true := fun u hu => by
  obtain ⟨i, -, hu⟩ := List.mem_flatMap.1 hu
  simp only [inC, List.mem_cons, List.not_mem_nil, or_false] at hu
  rcases hu with rfl | rfl <;> rfl
theorem infoIns : (Tryz.prog.info? 28).map (fun i => (i.zero, i.size, i.bytes)) = some (some (.agg #[.int .i64 0, .int .i64 0]), 2, 16) := by kernel_rfl
/-- Instructions that are read, put behind an own row. -/
theorem appendIl {Q' : Nat → Prop} {w : World} {ops : Array Oper} {rest : List Oper} {o : Oper} {a : Act} {Q : Exit → Act → World → Prop} (hgd : o.guard = none) (s x : Operand)
    (ho : o.op = .call { callee := .builtin .append, args := #[s, x], argTypes := #[33, 33] })
    (base : Nat) (v : Value) (n : Nat) (xs : List Value) (hs : a.eval s = v) (hown : w.ownsRow base 28 2 v n xs) (vx : Value) (l : List Ins) (hx : a.eval x = vx) (hl : Il Q' w vx l) (hb : n + l.length ≤ 1000000000) (hbase : base ≤ w.heap.size)
    (h : ∀ v' w', w'.ownsRow base 28 2 v' (n + l.length) (xs ++ fl inC l) → w.grownBy w' v.ownBlock → wpList Tryz.prog ops Q rest (a.put o.dst v') w') :
    wpList Tryz.prog ops Q (o :: rest) a w := by
  refine wpList_plain hgd fun K hK => ?_
  obtain ⟨i0, hi, hz0, hz1, hz2⟩ := info_parts infoIns
  obtain ⟨ao, c, rfl, h1, h2, h3⟩ := hl
  have main : ∃ v' w', (Builtin.append_ #[33, 33] o.type #[v, .slice ao l.length c]).run Tryz.prog w = .ok v' w' ∧ w'.ownsRow base 28 2 v' (n + l.length) (xs ++ fl inC l) ∧ w.grownBy w' v.ownBlock := by
    cases ao with
    | none =>
      obtain rfl : l = [] := by
        cases l with
        | nil => rfl
        | cons y t =>
          obtain ⟨g, o, e, -⟩ := h3 (by simp)
          cases e
      refine ⟨v, w, ?_, by simpa [fl] using hown, World.grownBy.refl _ _⟩
      rcases hown.2 with ⟨rfl, rfl⟩ | ⟨g, cap, cur, rfl, _, _, hnc, _⟩
      · simp [Builtin.append_, run_underlying Tryz.underlying33, typeInfo, hi, Builtin.lenOf, Builtin.firstCells]
      · simp [Builtin.append_, run_underlying Tryz.underlying33, typeInfo, hi, Builtin.lenOf, Builtin.firstCells, hnc, storeCells]
    | some ad =>
      obtain ⟨v', w', hr, a2, a3, -, -⟩ := run_append_own_at (P := Tryz.prog) w base 33 o.type 28 i0 (.agg #[.int .i64 0, .int .i64 0]) 2 16 Tryz.underlying33 hi hz0 hz1 hz2 rfl (by decide) v n xs hown ad l.length c (fl inC l) (by rw [fl_len inC_len]) (fun j u hj => by
        have hj2 : j < l.length * 2 := by
          have := (List.getElem?_eq_some_iff.1 hj).1
          rwa [fl_len inC_len] at this
        obtain ⟨g', o', e3, -, z4⟩ := h3 (by omega)
        obtain rfl := Option.some.inj e3
        obtain ⟨-, -, d0, d1⟩ := z4 (j / 2) (by omega)
        have hj3 := fl_at inC_len l (j / 2) (by omega) (j % 2) (by omega)
        rw [show j / 2 * 2 + j % 2 = j by omega, hj] at hj3
        rw [show (⟨g', o', none⟩ : Addr).add j = ⟨g', o' + j, none⟩ by simp [Addr.add]]
        rcases Nat.mod_two_eq_zero_or_one j with e | e
        · rw [e] at hj3
          rw [show o' + j = o' + j / 2 * 2 by omega, d0, hj3]
          rfl
        · rw [e] at hj3
          rw [show o' + j = o' + j / 2 * 2 + 1 by omega, d1, hj3]
          rfl) (inC_one l) (by unfold maxLen; omega) (by omega) hbase
      exact ⟨v', w', hr, a2, a3⟩
  obtain ⟨v', w', hr, h2', h3'⟩ := main
  unfold Oper.wp execOp
  simp only [ho, resolve, invoke, builtin, Sem.run_bind, Sem.run_pure, Result.andThen_ok, List.map_toArray, List.map_cons, List.map_nil, hs, hx, hr]
  exact hK _ _ (h v' w' h2' h3')
theorem own_il {w : World} {B g n c m : Nat} {l r : List Ins} (h : w.ownsRow B 28 2 (.slice (some ⟨g, 0, none⟩) m c) m (fl inC (l ++ r))) (hn : n = l.length) (h6 : ∀ i ∈ l, I6 i.op ∧ I6 i.a) : Il (fun j => j = g) w (.slice (some ⟨g, 0, none⟩) n c) l := by
  subst hn
  have hm : m = l.length + r.length := by have := h.1; rw [fl_len inC_len, List.length_append] at this; omega
  obtain ⟨h1, h2⟩ := own_cap h
  refine ⟨_, c, rfl, by omega, by unfold maxLen; omega, fun _ => ⟨g, 0, rfl, rfl, fun i hi => ?_⟩⟩
  have hi2 : i < (l ++ r).length := by rw [List.length_append]; omega
  obtain ⟨a, b⟩ := h6 _ (List.getElem_mem hi)
  refine ⟨a, b, ?_, ?_⟩
  · rw [Nat.zero_add, h.cellAt _ (by omega)]
    have := fl_at inC_len (l ++ r) i hi2 0 (by omega)
    rw [List.getElem_append_left hi] at this
    exact this
  · rw [Nat.zero_add, h.cellAt _ (by omega)]
    have := fl_at inC_len (l ++ r) i hi2 1 (by omega)
    rw [List.getElem_append_left hi] at this
    exact this
def i77 (l : List Ins) (i : Nat) : List Ins := l ++ List.replicate i ⟨77, 0⟩
theorem i77_on (l : List Ins) (i : Nat) : fl inC (i77 l i) ++ fl inC [⟨77, 0⟩] = fl inC (i77 l (i + 1)) := by
  unfold i77
  rw [List.replicate_succ', ← List.append_assoc, fl_snoc]
  simp [fl]
set_option maxHeartbeats 4000000 in
theorem lrow_any {Q : Nat → Prop} {w : World} {ao : Option Addr} {n c : Nat} (l : List Ins) (h : Il Q w (.slice ao n c) l) (hn : n = l.length) (hz : n ≤ 1000000) : Calls Tryz.prog 14 #[.slice ao n c] w fun e w' => ∃ g c', e = .returned (.slice (some ⟨g, 0, none⟩) n c') ∧ Lk 28 w.heap.size w' g ∧ Il (fun j => j = g) w' (.slice (some ⟨g, 0, none⟩) n c') l ∧ n ≤ c' ∧ c' ≤ 9223372036854775807 ∧ Below w.heap.size w w' := by
  have H6 := hide h.six
  have HN := hide hn
  have H0 := hide h
  obtain ⟨hc1, hc2⟩ : n ≤ c ∧ c ≤ 9223372036854775807 := by
    obtain ⟨ao', c', e, hc1, hc2, -⟩ := h
    injection e with e1 e2 e3
    unfold maxLen at hc2
    omega
  clear h hn
  go_enter Tryz.func14, Tryz.ntmps14
  go_wp2_with (at_builtin; refine appendIl rfl _ _ rfl w.heap.size _ 0 [] rfl (World.ownsRow_nil _ _ _ _) _ l rfl H0.out ?k1 (Nat.le_refl _) ?_)
  case k1 => have := HN.out; omega
  intro v1 w1 o1 g1
  have B1 : Hid (Below w.heap.size w w1) := Below.grown (Below.refl _ _) g1 (Nat.le_refl _) (fun k e => by cases e)
  have O1 : Hid (w1.ownsRow w.heap.size 28 2 v1 (n + 0) (fl inC (i77 l 0))) := by unfold Hid i77; rw [HN.out]; simpa using o1
  clear o1 g1 H0
  go_upto_region 3 with fail
  go_wp2_with fail
  go_loopw [3, 4] (fun v3 v4 W => ∃ i : Nat, i ≤ 8 ∧ v4 = .int .i64 (i : Int) ∧ Hid (W.ownsRow w.heap.size 28 2 v3 (n + i) (fl inC (i77 l i))) ∧ Hid (Below w.heap.size w W)) (fun _ v4 _ => 8 - (intOf v4).toNat)
  case atStart => exact ⟨0, by omega, rfl, O1, B1⟩
  case round =>
    obtain ⟨i, hi, rfl, HO, HB⟩ := hrel
    obtain ⟨m, hm⟩ : ∃ m, m = n + i := ⟨_, rfl⟩
    have HM := hide hm
    rw [← hm] at HO
    obtain ⟨a3, c3, rfl⟩ := own_len HO.out
    obtain ⟨q1, q2⟩ := own_cap HO.out
    by_cases hlt : i < 8
    · have t1 : (i : Int) < 8 := by omega
      have HL : Hid (Il (fun _ => True) (wr.alloc (.cells #[.int .i64 77, .int .i64 0] 28)) (.slice (some ⟨wr.heap.size, 0, none⟩) 1 1) [⟨77, 0⟩]) := by
        have k : ∀ j, (wr.alloc (.cells #[.int .i64 77, .int .i64 0] 28)).cell? ⟨wr.heap.size, j, none⟩ = (#[Value.int .i64 77, .int .i64 0] : Array Value)[j]? := fun j => cell_of_row _ _ _ _ 28 (0, 0) (heap_alloc_new wr _)
        refine ⟨_, 1, rfl, Nat.le_refl 1, by decide, fun _ => ⟨_, 0, rfl, trivial, fun i hi => ?_⟩⟩
        match i, hi with
        | 0, _ => exact ⟨(⟨by decide, by decide⟩ : I6 77), (⟨by decide, by decide⟩ : I6 0), k 0, k 1⟩
      have BA := hide (below_on HB.out (below_alloc wr (.cells #[.int .i64 77, .int .i64 0] 28)))
      clear hm
      go_wp2_with (at_builtin; refine appendIl rfl _ _ rfl w.heap.size _ m (fl inC (i77 l i)) rfl ?m0 _ [⟨77, 0⟩] rfl HL.out ?m1 ?m2 ?_)
      case m0 => exact HO.out.alloc _
      case m1 => have := HM.out; show m + 1 ≤ _; omega
      case m2 => exact BA.out.size
      intro v2 w2 o2 g2
      have B2 : Hid (Below w.heap.size w w2) := BA.out.grown g2 BA.out.size (fun k e => (HO.out.lt k e).1)
      have O2 : Hid (w2.ownsRow w.heap.size 28 2 v2 (n + (i + 1)) (fl inC (i77 l (i + 1)))) := by
        unfold Hid
        rw [← i77_on, show n + (i + 1) = m + 1 by have := HM.out; omega]
        exact o2
      clear o2 g2 HO HB BA HL
      go_wp2_with fail
      go_roundw
      case rel => exact ⟨i + 1, by omega, by go_num, O2, B2⟩
      case measure => show 8 - (intOf (.int .i64 ((i : Int) + 1))).toNat < 8 - (intOf (.int .i64 (i : Int))).toNat; simp only [intOf]; omega
    · have e8 : i = 8 := by omega
      subst e8
      have HK : Hid (∃ g, a3 = some ⟨g, 0, none⟩) := by
        rcases HO.out.2 with ⟨e, e'⟩ | ⟨g, cap, cur, e, -⟩
        · have := HM.out
          have : m = 0 := by injection e
          omega
        · injection e with e1
          exact ⟨g, e1⟩
      obtain ⟨g, rfl⟩ := HK.out
      have t1 : ((8 : Nat) : Int) = 8 := rfl
      have t2 : (n : Int) ≤ c3 := by have := HM.out; omega
      have HK2 : Hid (Lk 28 w.heap.size wr g) := ⟨(HO.out.lt g rfl).1, own_blk2 HO.out rfl⟩
      clear hm HK
      rw [t1]
      go_wp2_with fail
      go_ret
      exact ⟨g, _, rfl, HK2.out, own_il HO.out HN.out H6.out, by omega, q2, HB.out⟩
end Go.Proofs.YtfkhhplcogedmaaGreatDoor
