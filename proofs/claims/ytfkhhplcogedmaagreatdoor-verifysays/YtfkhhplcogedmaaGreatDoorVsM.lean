/-
  Verify: kinds lent (the law's named; as proved for World).
-/
import Derived.Test.YtfkhhplcogedmaaGreatDoorVsC
import Derived.Laws.AppendOwnNone
import Derived.Maps.AppendAt
import Derived.Deep.RegionHeld3
namespace Go.Proofs.YtfkhhplcogedmaaGreatDoor.Kn
open Go.RowKit
set_option maxRecDepth 100000
theorem own_kinds {w : World} {B B' e e' s s' n n' k : Nat} {v v' : Value} {xs xs' : List Value} (h : w.ownsRow B e s v n xs) (h' : w.ownsRow B' e' s' v' n' xs') (hne : e ≠ e') (hk : v.ownBlock = some k) : v'.ownBlock ≠ some k := fun hk' => by
  rcases h.2 with ⟨rfl, -⟩ | ⟨g, c, cur, rfl, -, hg, -⟩
  · simp [Value.ownBlock] at hk
  · rcases h'.2 with ⟨rfl, -⟩ | ⟨g', c', cur', rfl, -, hg', -⟩
    · simp [Value.ownBlock] at hk'
    · simp only [Value.ownBlock, Option.some.injEq] at hk hk'
      subst hk
      subst hk'
      rw [hg] at hg'
      simp only [Option.some.injEq, Obj.cells.injEq] at hg'
      exact hne hg'.2.1
theorem sr_of {W : World} {g : Nat} {l : List ByteArray} {o : Array Value} (h : W.heap[g]? = some (.cells o 9 (0, 0))) (hl : l.length ≤ 100) (ho : ∀ j (hj : j < l.length), o[j]? = some (.string l[j])) : Sr W (.slice (some ⟨g, 0, none⟩) l.length l.length) l := by
  refine ⟨some ⟨g, 0, none⟩, l.length, rfl, Nat.le_refl _, by unfold maxLen; omega, fun j hj => ⟨g, 0, rfl, ?_⟩⟩
  rw [Nat.zero_add, cell_of_row W g _ _ 9 (0, 0) h]
  exact ho j hj
def bh : ByteArray := ⟨#[98, 101, 104, 105, 110, 100]⟩
def blk (p : Kc) : Nat := (p.2.1.map (·.block)).getD 0
/-- A kind that is lent: its fields lie in memory of their own, with two texts behind them. -/
def Lf (B : Nat) (W : World) (k : Kind) (p : Kc) : Prop := p.1 = k.1 ∧ ∃ g c, p.2 = (some ⟨g, 0, none⟩, k.2.length, c) ∧ W.ownsRow B 9 1 (.slice (some ⟨g, 0, none⟩) (k.2.length + 2) c) (k.2.length + 2) (sz (k.2 ++ [bh, bh]))
def Rise (L : List Kc) : Prop := ∀ i j (hi : i < L.length) (hj : j < L.length), i < j → blk L[i] < blk L[j]
/-- So many of them. -/
def Lw (B : Nat) (W : World) (v : Value) (ks : List Kind) (L : List Kc) : Prop := W.ownsRow B 63 2 v L.length (kz L) ∧ L.length ≤ ks.length ∧ (∀ j (h1 : j < L.length) (h2 : j < ks.length), Lf B W ks[j] L[j]) ∧ Rise L
theorem Lf.lt {B : Nat} {W : World} {k : Kind} {p : Kc} (h : Lf B W k p) : B ≤ blk p ∧ blk p < W.heap.size := by
  obtain ⟨-, g, c, e, ho⟩ := h
  have := ho.lt g rfl
  unfold blk
  rw [e]
  exact this
theorem Lf.grown {B : Nat} {W W' : World} {k : Kind} {p : Kc} {row : Option Nat} (h : Lf B W k p) (hg : W.grownBy W' row) (hr : row ≠ some (blk p)) : Lf B W' k p := by
  obtain ⟨h1, g, c, e, ho⟩ := h
  refine ⟨h1, g, c, e, own_kept ho hg (fun q hq => ?_)⟩
  have : blk p = g := by unfold blk; rw [e]; rfl
  simp only [Value.ownBlock, Option.some.injEq] at hq
  rw [← hq, ← this]
  exact hr
theorem Lf.later {B : Nat} {W W' : World} {k : Kind} {p : Kc} (h : Lf B W k p) (hb : Below W.heap.size W W') : Lf B W' k p := h.grown (grown_later hb) (by simp)
theorem kz_append : ∀ (a b : List Kc), kz (a ++ b) = kz a ++ kz b
  | [], _ => rfl
  | p :: t, b => by simp [kz, kz_append t b]
theorem Lw.start (B : Nat) (W : World) (ks : List Kind) : Lw B W (.slice none 0 0) ks [] := ⟨World.ownsRow_nil _ _ _ _, Nat.zero_le _, fun j h => absurd h (by simp), fun i j h => absurd h (by simp)⟩
theorem Lf.kinds {B B' n s : Nat} {W : World} {v : Value} {xs : List Value} {k : Kind} {p : Kc} (h : Lf B W k p) (hv : W.ownsRow B' 63 s v n xs) : v.ownBlock ≠ some (blk p) := by
  obtain ⟨-, g, c, e, ho⟩ := h
  have hb : blk p = g := by unfold blk; rw [e]; rfl
  rw [hb]
  exact own_kinds ho hv (by decide) rfl
theorem Lw.push {B : Nat} {W W1 W2 : World} {v v' : Value} {ks : List Kind} {L : List Kc} {p : Kc} (h : Lw B W v ks L) (hi : L.length < ks.length) (hb : Below W.heap.size W W1) (hp : Lf B W1 ks[L.length] p) (hf : W.heap.size ≤ blk p) (ho : W2.ownsRow B 63 2 v' (L.length + 1) (kz L ++ [.string p.1, kcV p])) (hg : W1.grownBy W2 v.ownBlock) : Lw B W2 v' ks (L ++ [p]) := by
  obtain ⟨h1, h2, h3, h4⟩ := h
  have h1' := own_later h1 hb
  refine ⟨?_, by simp; omega, fun j j1 j2 => ?_, fun i j i1 j1 hij => ?_⟩
  · rw [List.length_append, kz_append]
    exact ho
  · by_cases c : j < L.length
    · rw [List.getElem_append_left c]
      have := (h3 j c j2).later hb
      exact this.grown hg (this.kinds h1')
    · have hj : j = L.length := by simp at j1; omega
      subst hj
      rw [List.getElem_append_right (Nat.le_refl _)]
      simp only [Nat.sub_self, List.getElem_cons_zero]
      exact hp.grown hg (hp.kinds h1')
  · by_cases c : j < L.length
    · rw [List.getElem_append_left (by omega), List.getElem_append_left c]
      exact h4 i j (by omega) c hij
    · have hj : j = L.length := by simp at j1; omega
      subst hj
      rw [List.getElem_append_left (by omega), List.getElem_append_right (Nat.le_refl _)]
      simp only [Nat.sub_self, List.getElem_cons_zero]
      have := (h3 i (by omega) (by omega)).lt.2
      omega
/-- What is lent, as a whole: one kind stands behind it. -/
def Lk (B : Nat) (W : World) (v : Value) (ks : List Kind) : Prop := ∃ g c L, v = .slice (some ⟨g, 0, none⟩) ks.length c ∧ L.length = ks.length ∧ W.ownsRow B 63 2 (.slice (some ⟨g, 0, none⟩) (ks.length + 1) c) (ks.length + 1) (kz (L ++ [(bh, none, 0, 0)])) ∧ (∀ j (h1 : j < L.length) (h2 : j < ks.length), Lf B W ks[j] L[j]) ∧ Rise L
theorem Lw.done {B : Nat} {W W2 : World} {v : Value} {g c : Nat} {ks : List Kind} {L : List Kc} (h : Lw B W v ks L) (hl : L.length = ks.length) (ho : W2.ownsRow B 63 2 (.slice (some ⟨g, 0, none⟩) (ks.length + 1) c) (ks.length + 1) (kz L ++ [.string bh, .slice none 0 0])) (hg : W.grownBy W2 v.ownBlock) : Lk B W2 (.slice (some ⟨g, 0, none⟩) ks.length c) ks := by
  obtain ⟨h1, h2, h3, h4⟩ := h
  refine ⟨g, c, L, rfl, hl, ?_, fun j j1 j2 => (h3 j j1 j2).grown hg ((h3 j j1 j2).kinds h1), h4⟩
  rw [kz_append]
  exact ho
theorem Lf.sr {B : Nat} {W : World} {k : Kind} {p : Kc} (h : Lf B W k p) : Sr W (kcV p) k.2 := by
  obtain ⟨-, g, c, e, ho⟩ := h
  have hc := own_cap ho
  refine ⟨some ⟨g, 0, none⟩, c, by unfold kcV; rw [e], by omega, by unfold maxLen; omega, fun j hj => ⟨g, 0, rfl, ?_⟩⟩
  rw [Nat.zero_add, ho.cellAt j (by omega), sz_at _ j (by simp; omega), List.getElem_append_left hj]
theorem Lk.kr {B : Nat} {W : World} {v : Value} {ks : List Kind} (h : Lk B W v ks) : Kr W v ks := by
  obtain ⟨g, c, L, rfl, hl, ho, h3, -⟩ := h
  have hc := own_cap ho
  refine ⟨some ⟨g, 0, none⟩, c, rfl, by omega, by unfold maxLen; omega, fun i hi => ⟨g, 0, kcV (L[i]'(by omega)), rfl, ?_, ?_, (h3 i (by omega) hi).sr⟩⟩
  · rw [Nat.zero_add, ho.cellAt (i * 2) (by omega), (kz_at _ i (by simp; omega)).1, List.getElem_append_left (by omega), (h3 i (by omega) hi).1]
  · rw [Nat.zero_add, ho.cellAt (i * 2 + 1) (by omega), (kz_at _ i (by simp; omega)).2, List.getElem_append_left (by omega)]
theorem run_append_none {P : Program} {w : World} (base : Nat) (t ty e : TypeId) (i : TypeInfo) (size : Nat) (ht : P.underlying t = some (.slice e)) (hi : P.info? e = some i)
    (v : Value) (n : Nat) (xs : List Value) (hown : w.ownsRow base e size v n xs) (c : Nat) :
    (Builtin.append_ #[t, t] ty #[v, .slice none 0 c]).run P w = .ok v w := by
  rcases hown.2 with ⟨rfl, rfl⟩ | ⟨g, cap, cur, rfl, _, _, hnc, _⟩
  · simp [Builtin.append_, run_underlying ht, Go.sizeOf, typeInfo, hi, Builtin.lenOf, Builtin.firstCells]
  · simp [Builtin.append_, run_underlying ht, Go.sizeOf, typeInfo, hi, Builtin.lenOf, Builtin.firstCells, hnc, storeCells]
/-- 'append(v, l...)' of texts, v the call's own. -/
theorem run_append_texts {w : World} (base : Nat) (ty : TypeId) (v : Value) (n : Nat) (xs : List Value) (hown : w.ownsRow base 9 1 v n xs) (vx : Value) (l : List ByteArray) (hsr : Sr w vx l) (hb : (n + l.length) * 16 ≤ 140737488355328) (hbase : base ≤ w.heap.size) :
    ∃ v' w', (Builtin.append_ #[61, 61] ty #[v, vx]).run Tryz.prog w = .ok v' w' ∧ w'.ownsRow base 9 1 v' (n + l.length) (xs ++ sz l) ∧ w.grownBy w' v.ownBlock ∧ (v'.ownBlock = v.ownBlock ∨ v'.ownBlock = some w.heap.size) := by
  obtain ⟨i0, hi, hz0, hz1, hz2⟩ := info_parts info9
  obtain ⟨ao, c, rfl, h1, h2, h3⟩ := hsr
  cases ao with
  | none =>
    obtain rfl : l = [] := by
      cases l with
      | nil => rfl
      | cons x t =>
        obtain ⟨g, o, e, -⟩ := h3 0 (by simp)
        cases e
    refine ⟨v, w, run_append_none base 61 ty 9 i0 1 Tryz.underlying61 hi v n xs hown c, ?_, World.grownBy.refl _ _, .inl rfl⟩
    simpa [sz] using hown
  | some ad =>
    obtain ⟨v', w', hr, a2, a3, -, a5⟩ := run_append_own_at (P := Tryz.prog) w base 61 ty 9 i0 (.string ⟨#[]⟩) 1 16 Tryz.underlying61 hi hz0 hz1 hz2 rfl (by decide) v n xs hown ad l.length c (sz l) (by rw [sz_len]; omega) (fun j u hj => by
      have hj2 : j < l.length := by
        have := (List.getElem?_eq_some_iff.1 hj).1
        rwa [sz_len] at this
      rw [sz_at l j hj2] at hj
      obtain ⟨g', o', e3, z4⟩ := h3 j hj2
      obtain rfl := Option.some.inj e3
      rw [Addr.add_lit, ← Option.some.inj hj]
      exact z4) (sz_one l) (by unfold maxLen; omega) hb hbase
    exact ⟨v', w', hr, a2, a3, a5⟩
theorem wpList_append_texts {w : World} {ops : Array Oper} {rest : List Oper} {o : Oper} {a : Act} {Q : Exit → Act → World → Prop} (hgd : o.guard = none) (s x : Operand)
    (ho : o.op = .call { callee := .builtin .append, args := #[s, x], argTypes := #[61, 61] })
    (base : Nat) (v : Value) (n : Nat) (xs : List Value) (hs : a.eval s = v) (hown : w.ownsRow base 9 1 v n xs) (vx : Value) (l : List ByteArray) (hx : a.eval x = vx) (hsr : Sr w vx l) (hb : (n + l.length) * 16 ≤ 140737488355328) (hbase : base ≤ w.heap.size)
    (h : ∀ v' w', w'.ownsRow base 9 1 v' (n + l.length) (xs ++ sz l) → w.grownBy w' v.ownBlock → (v'.ownBlock = v.ownBlock ∨ v'.ownBlock = some w.heap.size) → wpList Tryz.prog ops Q rest (a.put o.dst v') w') :
    wpList Tryz.prog ops Q (o :: rest) a w := by
  refine wpList_plain hgd fun K hK => ?_
  obtain ⟨v', w', hr, h2, h3, h5⟩ := run_append_texts base o.type v n xs hown vx l hsr hb hbase
  unfold Oper.wp execOp
  simp only [ho, resolve, invoke, builtin, Sem.run_bind, Sem.run_pure, Result.andThen_ok, List.map_toArray, List.map_cons, List.map_nil, hs, hx, hr]
  exact hK _ _ (h v' w' h2 h3 h5)
theorem sr_two {w : World} : Sr (w.alloc (.cells #[.string bh, .string bh] 9)) (.slice (some ⟨w.heap.size, 0, none⟩) 2 2) [bh, bh] :=
  sr_of (l := [bh, bh]) (heap_alloc_new w _) (by decide) (fun j hj => by match j, hj with | 0, _ => rfl | 1, _ => rfl)
theorem Lw.at_alloc {B : Nat} {W : World} {v : Value} {ks : List Kind} {L : List Kc} {o : Obj} (h : Lw B W v ks L) : Lw B (W.alloc o) v ks L := ⟨own_later h.1 (below_alloc _ _), h.2.1, fun j h1 h2 => (h.2.2.1 j h1 h2).later (below_alloc _ _), h.2.2.2⟩
theorem lf_made {B : Nat} {w W : World} {k : Kind} {f : Value} (hk : W.ownsRow w.heap.size 9 1 f (k.2.length + 2) (sz k.2 ++ sz [bh, bh])) (hw : B ≤ w.heap.size) : ∃ g c, f = .slice (some ⟨g, 0, none⟩) (k.2.length + 2) c ∧ k.2.length + 2 ≤ c ∧ w.heap.size ≤ g ∧ Lf B W k (k.1, some ⟨g, 0, none⟩, k.2.length, c) := by
  obtain ⟨g, c, rfl, h1, h2⟩ := own_form hk (by omega)
  refine ⟨g, c, rfl, h1, (hk.lt g rfl).1, rfl, g, c, rfl, own_lower ?_ hw⟩
  rw [sz_append]
  exact hk
set_option maxHeartbeats 8000000 in
theorem lent_kinds {w : World} {v : Value} {ks : List Kind} (h : Kr w v ks) (hz : Sz ks) : Calls Tryz.prog 15 #[v] w fun e w' => ∃ v', e = .returned v' ∧ Lk w.heap.size w' v' ks ∧ Below w.heap.size w w' := by
  obtain ⟨i0, hi0, hz0, hz1, hz2⟩ := info_parts infoK
  have HK := hide h
  have HZ := hide hz
  have hz := hz.1
  obtain ⟨ao, c, rfl, h1, h2, h3⟩ := h
  have hbig : c ≤ 9223372036854775807 := by unfold maxLen at h2; omega
  clear h3 h2
  go_enter Tryz.func15, Tryz.ntmps15
  go_wp2_with fail
  go_loopw [3, 4] (fun v3 v4 W => ∃ L : List Kc, L.length ≤ ks.length ∧ v4 = .int .i64 (L.length : Int) ∧ Hid (Lw w.heap.size W v3 ks L) ∧ Hid (Below w.heap.size w W) ∧ ∃ a3 c3, v3 = .slice a3 L.length c3) (fun _ v4 _ => ks.length - (intOf v4).toNat)
  case atStart => exact ⟨[], Nat.zero_le _, rfl, Lw.start _ _ _, Below.refl _ _, _, _, rfl⟩
  case round =>
    obtain ⟨L, hil, rfl, HL, HB, a3, c3, rfl⟩ := hrel
    by_cases hlt : L.length < ks.length
    · have t1 : (L.length : Int) < (ks.length : Int) := by omega
      obtain ⟨ao', c', e', -, -, h3⟩ := HK.out.later HB.out
      simp only [Value.slice.injEq, true_and] at e'
      obtain ⟨rfl, rfl⟩ := e'
      obtain ⟨g, o, vf, rfl, e1, e2, e3⟩ := h3 L.length hlt
      have E1 := hide e1
      have E2 := hide e2
      have E3 := hide e3
      have hfl := (HZ.out.2 _ (List.getElem_mem hlt)).1
      have HP : Hid (∀ (W1 W2 : World) (v' : Value) (p : Kc), Below wr.heap.size wr W1 → Lf w.heap.size W1 ks[L.length] p → wr.heap.size ≤ blk p → W2.ownsRow w.heap.size 63 2 v' (L.length + 1) (kz L ++ [.string p.1, kcV p]) → W1.grownBy W2 (Value.slice a3 L.length c3).ownBlock → Lw w.heap.size W2 v' ks (L ++ [p])) := fun W1 W2 v' p q1 q2 q3 q4 q5 => HL.out.push hlt q1 q2 q3 q4 q5
      generalize ks[L.length] = kd at *
      obtain ⟨nm, fs⟩ := kd
      obtain ⟨af, cf, rfl, -⟩ := e3
      dsimp only at e1 e2 E3 hfl E1 E2
      have hsz := HB.out.size
      clear h3
      go_wp2_with (at_builtin; refine wpList_append_texts rfl _ _ rfl wr.heap.size (.slice none 0 0) 0 [] rfl (World.ownsRow_nil _ _ _ _) (.slice af fs.length cf) fs rfl E3.out (by omega) (Nat.le_refl _) ?_)
      intro f1 w1 o1 g1 _
      try simp only [Nat.zero_add, List.nil_append] at o1
      have B1 : Hid (Below wr.heap.size wr w1) := (Below.refl _ _).grown g1 (Nat.le_refl _) (fun k e => by cases e)
      obtain ⟨a5, c5, rfl⟩ := own_len o1
      have O1 := hide o1
      clear o1 g1
      have hs1 := B1.out.size
      go_wp2_with (at_builtin; refine wpList_append_texts rfl _ _ rfl wr.heap.size (.slice a5 fs.length c5) fs.length (sz fs) rfl (O1.out.alloc _) (.slice (some ⟨w1.heap.size, 0, none⟩) 2 2) [bh, bh] rfl sr_two (by simp; omega) (by simp; omega) ?_)
      intro f2 w2 o2 g2 _
      have B2 : Hid (Below wr.heap.size wr w2) := (below_on B1.out (below_alloc _ _)).grown g2 (by simp; omega) (fun k e => (O1.out.lt k e).1)
      obtain ⟨gf, cf2, rfl, q1, q2, HF⟩ := lf_made (B := w.heap.size) (k := (nm, fs)) o2 hsz
      have q1' : fs.length + 2 ≤ cf2 := q1
      have hcap := own_cap o2
      have HF2 := hide HF
      clear o2 g2 HF e1 e2
      have hs2 := B2.out.size
      have e1 := (B2.out.cell (p := ⟨g, o + L.length * 2, none⟩) (World.block_lt_of_cell? _ _ E1.out)).trans E1.out
      have e2 := (B2.out.cell (p := ⟨g, o + L.length * 2 + 1, none⟩) (World.block_lt_of_cell? _ _ E2.out)).trans E2.out
      have t5 : (fs.length : Int) ≤ (cf2 : Int) := by omega
      have HO : Hid (w2.ownsRow w.heap.size 63 2 (.slice a3 L.length c3) L.length (kz L)) := own_later HL.out.1 B2.out
      have KG : Hid (g < w.heap.size) := by
        obtain ⟨_, _, e, -, -, h4⟩ := HK.out
        simp only [Value.slice.injEq] at e
        obtain ⟨rfl, -, rfl⟩ := e
        obtain ⟨g', o', vf', e', z1, -, -⟩ := h4 L.length hlt
        simp only [Option.some.injEq, Addr.mk.injEq, and_true] at e'
        obtain ⟨rfl, rfl⟩ := e'
        exact World.block_lt_of_cell? _ _ z1
      go_upto_region 8 with fail
      have S0 : w2.drew.cell? ⟨g, o + L.length * 2, none⟩ = some (.string nm) ∧ w2.drew.cell? ⟨g, o + L.length * 2 + 1, none⟩ = some (.slice af fs.length cf) := ⟨e1, e2⟩
      have bdA := below_on (below_drew w2) (below_alloc w2.drew (.cells #[.string nm, .slice (some ⟨gf, 0, none⟩) fs.length cf2] 63))
      have SB : (w2.drew.alloc (.cells #[.string nm, .slice (some ⟨gf, 0, none⟩) fs.length cf2] 63)).cell? ⟨g, o + L.length * 2, none⟩ = some (.string nm) ∧ (w2.drew.alloc (.cells #[.string nm, .slice (some ⟨gf, 0, none⟩) fs.length cf2] 63)).cell? ⟨g, o + L.length * 2 + 1, none⟩ = some (.slice af fs.length cf) := ⟨(bdA.cell (p := ⟨g, o + L.length * 2, none⟩) (World.block_lt_of_cell? _ _ e1)).trans e1, (bdA.cell (p := ⟨g, o + L.length * 2 + 1, none⟩) (World.block_lt_of_cell? _ _ e2)).trans e2⟩
      have HO9 : Hid ((w2.drew.alloc (.cells #[.string nm, .slice (some ⟨gf, 0, none⟩) fs.length cf2] 63)).ownsRow w.heap.size 63 2 (.slice a3 L.length c3) L.length (kz L)) := own_later HO.out bdA
      clear e1 e2
      go_region_held3 (fun V => V.cell? ⟨g, o + L.length * 2, none⟩ = some (.string nm) ∧ V.cell? ⟨g, o + L.length * 2 + 1, none⟩ = some (.slice af fs.length cf)) (first | exact S0 | exact SB | exact z1) ((refine step_append_lies _ rfl (.tmp 22) (.tmp 37) 26 rfl w.heap.size 63 i0 (.agg #[.string ⟨#[]⟩, .slice none 0 0]) 2 40 Tryz.underlying26 hi0 hz0 hz1 hz2 rfl (by decide) (.slice a3 L.length c3) L.length (kz L) (by simp [Act.eval]) HO9.out ⟨w2.heap.size, 0, none⟩ 1 1 [.string nm, .slice (some ⟨gf, 0, none⟩) fs.length cf2] (by simp [Act.eval]) rfl (by intro j u hj; match j, hj with | 0, hj => simp at hj; subst hj; simp [Addr.add] | 1, hj => simp at hj; subst hj; simp [Addr.add]) (by intro u hu; simp at hu; rcases hu with rfl | rfl <;> rfl) (by omega) (by unfold maxLen; omega) (by omega) (by simp; omega) _ rfl ?_; intro g9 c9 w9 ho9 hg9 ha9 _; have HN : Hid (Lw w.heap.size w9 (.slice (some ⟨g9, 0, none⟩) (L.length + 1) c9) ks (L ++ [(nm, some ⟨gf, 0, none⟩, fs.length, cf2)])) := HP.out _ w9 _ (nm, some ⟨gf, 0, none⟩, fs.length, cf2) (below_on B2.out (below_on (below_drew _) (below_alloc _ _))) (HF2.out.later (below_on (below_drew _) (below_alloc _ _))) q2 ho9 hg9; have HB9 : Hid (Below w.heap.size w w9) := (below_on (below_on HB.out B2.out) (below_on (below_drew _) (below_alloc _ _))).grown hg9 (by simp; omega) (fun k e => (HO.out.lt k e).1); have z1 : w9.cell? ⟨g, o + L.length * 2, none⟩ = some (.string nm) ∧ w9.cell? ⟨g, o + L.length * 2 + 1, none⟩ = some (.slice af fs.length cf) := ⟨(HB9.out.cell (p := ⟨g, o + L.length * 2, none⟩) KG.out).trans (HB.out.cell (p := ⟨g, o + L.length * 2, none⟩) KG.out ▸ E1.out), (HB9.out.cell (p := ⟨g, o + L.length * 2 + 1, none⟩) KG.out).trans (HB.out.cell (p := ⟨g, o + L.length * 2 + 1, none⟩) KG.out ▸ E2.out)⟩; clear ho9 hg9 ha9 HO9))
      go_wp2_with fail
      go_roundw
      case rel => exact ⟨L ++ [(nm, some ⟨gf, 0, none⟩, fs.length, cf2)], by simp; omega, by first | (simp; done) | (simp; go_num), HN, HB9, some ⟨g9, 0, none⟩, c9, by simp⟩
      case measure => simp [intOf]; omega
    · have t1 : ¬ (L.length : Int) < (ks.length : Int) := by omega
      have hl : L.length = ks.length := by omega
      have HO : Hid (wr.ownsRow w.heap.size 63 2 (.slice a3 L.length c3) L.length (kz L)) := HL.out.1
      have HD : Hid (∀ (ob : Obj) (g c : Nat) (W2 : World), W2.ownsRow w.heap.size 63 2 (.slice (some ⟨g, 0, none⟩) (ks.length + 1) c) (ks.length + 1) (kz L ++ [.string bh, .slice none 0 0]) → (wr.alloc ob).grownBy W2 (Value.slice a3 L.length c3).ownBlock → Lk w.heap.size W2 (.slice (some ⟨g, 0, none⟩) ks.length c) ks ∧ Below w.heap.size w W2) := fun ob g c W2 k1 k2 => ⟨(Lw.at_alloc HL.out).done hl k1 k2, (below_on HB.out (below_alloc _ _)).grown k2 (by have := HB.out.size; simp; omega) (fun k e => (HL.out.1.lt k e).1)⟩
      have hsz := HB.out.size
      clear HL HK
      go_wp2_with (at_builtin; refine wpList_append_own_at _ rfl _ _ 26 rfl w.heap.size 63 i0 (.agg #[.string ⟨#[]⟩, .slice none 0 0]) 2 40 Tryz.underlying26 hi0 hz0 hz1 hz2 rfl (by decide) _ L.length (kz L) rfl (HO.out.alloc _) ⟨wr.heap.size, 0, none⟩ 1 1 [.string bh, .slice none 0 0] rfl rfl ?c1 ?c2 (by unfold maxLen; omega) (by omega) ?c5 ?_)
      case c1 => intro j u hj; match j, hj with | 0, hj => simp at hj; subst hj; simp [bh] | 1, hj => simp at hj; subst hj; simp
      case c2 => repeat' (first | exact rfl | refine ⟨?_, ?_⟩)
      case c5 => first | omega | (simp; omega)
      intro v9 w9 ho9 hg9 _ _
      obtain ⟨g9, c9, rfl, k1, k2⟩ := own_form ho9 (by omega)
      try rw [hl] at ho9
      try rw [← hl] at hg9
      have HE := hide (HD.out _ g9 c9 w9 ho9 hg9)
      clear ho9 hg9 HD HO
      have t6 : (ks.length : Int) ≤ (c9 : Int) := by omega
      go_wp2_with fail
      go_ret
      exact ⟨_, rfl, HE.out.1, HE.out.2⟩
end Go.Proofs.YtfkhhplcogedmaaGreatDoor.Kn
