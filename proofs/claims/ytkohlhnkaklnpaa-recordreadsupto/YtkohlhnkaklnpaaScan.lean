/-
  record.Scan: as many records as are right, from the front.
-/
import Derived.Test.YtkohlhnkaklnpaaRget
import Derived.Test.YtkohlhnkaklnpaaTold
import Derived.Test.YtkohlhnkaklnpaaKeep
namespace Go.Proofs.Ytkohlhnkaklnpaa
open Go.RowKit
theorem info22 : (Try.prog.info? 22).map (fun i => (i.zero, i.size, i.bytes)) = some (some (.slice none 0 0), 1, 24) := by kernel_rfl
theorem size22 : (Try.prog.info? 22).map (·.size) = some 1 := by kernel_rfl

/-- Two values that lie in no block together. -/
def Ap (u v : Value) : Prop := ∀ g, u.ownBlock = some g → v.ownBlock = some g → False
theorem Ap.symm {u v : Value} (h : Ap u v) : Ap v u := fun g h1 h2 => h g h2 h1
/-- Lists within a list, each of the call's own. -/
def Pieces (w : World) (B : Nat) (vs : List Value) (ds : List (List UInt8)) : Prop :=
  vs.length = ds.length ∧ (∀ i (h1 : i < vs.length) (h2 : i < ds.length), Piece w B vs[i] ds[i] ∧ ds[i] ≠ []) ∧ (∀ i j (h1 : i < vs.length) (h2 : j < vs.length), i ≠ j → Ap vs[i] vs[j])
theorem Piece.shape {w : World} {B : Nat} {v : Value} {l : List UInt8} (h : Piece w B v l) : ∃ ao n c, v = .slice ao n c := by
  rcases h with ⟨rfl, _⟩ | ⟨g, o, cur, rfl, _⟩ <;> exact ⟨_, _, _, rfl⟩
theorem Piece.grow {w w' : World} {B : Nat} {v : Value} {l : List UInt8} {row : Option Nat} (h : Piece w B v l) (hg : w.grownBy w' row) (hne : ∀ g, v.ownBlock = some g → row ≠ some g) : Piece w' B v l := by
  rcases h with h0 | ⟨g, o, cur, rfl, h1, h2, h3, h4, h5⟩
  · exact .inl h0
  · exact .inr ⟨g, o, cur, rfl, h1, h2, h3, (hg.block g (Array.getElem?_eq_some_iff.1 h4).1 (fun e => hne g rfl e.symm)).trans h4, h5⟩
theorem Piece.lt {w : World} {B : Nat} {v : Value} {l : List UInt8} (h : Piece w B v l) : ∀ g, v.ownBlock = some g → B ≤ g ∧ g < w.heap.size := by
  intro g hg
  rcases h with ⟨rfl, _⟩ | ⟨g', o, cur, rfl, h1, h2, h3, h4, h5⟩
  · simp [Value.ownBlock] at hg
  · simp only [Value.ownBlock, Option.some.injEq] at hg
    subst hg
    exact ⟨h1, (Array.getElem?_eq_some_iff.1 h4).1⟩
theorem Piece.lower {w : World} {B B' : Nat} {v : Value} {l : List UInt8} (h : Piece w B v l) (hB : B' ≤ B) : Piece w B' v l := by
  rcases h with h0 | ⟨g, o, cur, h0, h1, h2⟩
  · exact .inl h0
  · exact .inr ⟨g, o, cur, h0, Nat.le_trans hB h1, h2⟩
theorem grown_later {w w' : World} (h : Below w.heap.size w w') : w.grownBy w' none := ⟨h.os, h.tape, h.output, h.size, fun k hk _ => h.block k hk⟩
theorem Piece.later {w w' : World} {B : Nat} {v : Value} {l : List UInt8} (h : Piece w B v l) (hb : Below w.heap.size w w') : Piece w' B v l := h.grow (grown_later hb) (fun _ _ => by simp)
theorem Pieces.grow {w w' : World} {B : Nat} {vs : List Value} {ds : List (List UInt8)} {row : Option Nat} (h : Pieces w B vs ds) (hg : w.grownBy w' row) (hne : ∀ v ∈ vs, ∀ g, v.ownBlock = some g → row ≠ some g) : Pieces w' B vs ds :=
  ⟨h.1, fun i h1 h2 => ⟨(h.2.1 i h1 h2).1.grow hg (hne _ (List.getElem_mem h1)), (h.2.1 i h1 h2).2⟩, h.2.2⟩
theorem Pieces.later {w w' : World} {B : Nat} {vs : List Value} {ds : List (List UInt8)} (h : Pieces w B vs ds) (hb : Below w.heap.size w w') : Pieces w' B vs ds := h.grow (grown_later hb) (fun _ _ _ _ => by simp)
theorem Pieces.nil (w : World) (B : Nat) : Pieces w B [] [] := ⟨rfl, fun i h1 => absurd h1 (by simp), fun i j h1 => absurd h1 (by simp)⟩
theorem Pieces.lt {w : World} {B : Nat} {vs : List Value} {ds : List (List UInt8)} (h : Pieces w B vs ds) : ∀ v ∈ vs, ∀ g, v.ownBlock = some g → B ≤ g ∧ g < w.heap.size := by
  intro v hv g hg
  obtain ⟨i, hi, rfl⟩ := List.getElem_of_mem hv
  exact (h.2.1 i hi (by rw [← h.1]; exact hi)).1.lt g hg
theorem Pieces.push {w : World} {B B' : Nat} {vs : List Value} {ds : List (List UInt8)} {v : Value} {d : List UInt8} (h : Pieces w B vs ds) (hv : Piece w B' v d) (hd : d ≠ []) (hB : B ≤ B') (hlt : ∀ u ∈ vs, ∀ g, u.ownBlock = some g → g < B') : Pieces w B (vs ++ [v]) (ds ++ [d]) := by
  refine ⟨by simp [h.1], fun i h1 h2 => ?_, fun i j h1 h2 hne => ?_⟩
  · by_cases hi : i < vs.length
    · rw [List.getElem_append_left hi, List.getElem_append_left (by rw [← h.1]; exact hi)]
      exact h.2.1 i hi (by rw [← h.1]; exact hi)
    · have hi' : i = vs.length := by simp at h1; omega
      subst hi'
      simp only [List.getElem_concat_length, h.1]
      exact ⟨hv.lower hB, hd⟩
  · have key : ∀ i (hi : i < vs.length), Ap vs[i] v := fun i hi g hu hg => by
      have a1 := hlt _ (List.getElem_mem hi) g hu
      have a2 := (hv.lt g hg).1
      omega
    by_cases hi : i < vs.length <;> by_cases hj : j < vs.length
    · rw [List.getElem_append_left hi, List.getElem_append_left hj]
      exact h.2.2 i j hi hj hne
    · have hj' : j = vs.length := by simp at h2; omega
      subst hj'
      rw [List.getElem_append_left hi]
      simpa using key i hi
    · have hi' : i = vs.length := by simp at h1; omega
      subst hi'
      rw [List.getElem_append_left hj]
      simpa using (key j hj).symm
    · simp at h1 h2
      omega

/-- What has been scanned: the list, the lists within it. -/
def Scanned (w : World) (B : Nat) (v : Value) (ds : List (List UInt8)) : Prop :=
  ∃ vs, w.ownsRow B 22 1 v ds.length vs ∧ Pieces w B vs ds ∧ ∀ u ∈ vs, Ap u v
theorem Scanned.nil (w : World) (B : Nat) : Scanned w B (.slice none 0 0) [] := ⟨[], World.ownsRow_nil _ _ _ _, Pieces.nil _ _, fun u hu => absurd hu (by simp)⟩
theorem Scanned.later {w w' : World} {B : Nat} {v : Value} {ds : List (List UInt8)} (h : Scanned w B v ds) (hb : Below w.heap.size w w') : Scanned w' B v ds := by
  obtain ⟨vs, h1, h2, h3⟩ := h
  refine ⟨vs, h1.kept (grown_later hb) ?_, h2.later hb, h3⟩
  cases v.ownBlock <;> simp

set_option maxHeartbeats 4000000 in
set_option maxRecDepth 100000 in
theorem scan_nil (ao : Option Addr) (c : Nat) (w : World) (hn : NilOr (.slice ao 0 c)) (hm : c ≤ maxLen) :
    Calls Try.prog 17 #[.slice ao 0 c] w fun e w' => e = .returned (.tuple #[.slice none 0 0, .int .i64 0]) ∧ Below w.heap.size w w' := by
  have hg := rget_any (.slice ao 0 c) [] w ⟨ao, c, rfl, Nat.zero_le _, hm, fun j hj => absurd hj (by simp)⟩
  have HG := hide hg
  clear hg
  unfold maxLen at hm
  rcases hn with hn | ⟨ad, m, c', hn⟩
  · simp only [Value.slice.injEq] at hn
    obtain ⟨rfl, _, rfl⟩ := hn
    go_enter Try.func17, Try.ntmps17
    go_wp2_with fail
    refine wp_loop_rounds 1 ?_
    rw [rounds_succ]
    go_wp2_with fail
    refine HG.out.mono ?_
    rintro e w2 ⟨v2, rfl, _, hb2⟩
    rw [show Rc.get [] = ([], 0) from rfl]
    go_wp2_with fail
    go_ret2
    exact ⟨rfl, hb2⟩
  · simp only [Value.slice.injEq] at hn
    obtain ⟨rfl, rfl, rfl⟩ := hn
    go_enter Try.func17, Try.ntmps17
    go_wp2_with fail
    refine wp_loop_rounds 1 ?_
    rw [rounds_succ]
    go_wp2_with fail
    refine HG.out.mono ?_
    rintro e w2 ⟨v2, rfl, _, hb2⟩
    rw [show Rc.get [] = ([], 0) from rfl]
    go_wp2_with fail
    go_ret2
    exact ⟨rfl, hb2⟩

set_option maxHeartbeats 4000000 in
set_option maxRecDepth 100000 in
theorem scan_some (g o c : Nat) (b : List UInt8) (w : World) (hp : 0 < b.length) (hl : b.length ≤ 1000000000000) (h1 : b.length ≤ c) (h2 : c ≤ maxLen) (h3 : ∀ j (hj : j < b.length), w.cell? ⟨g, o + j, none⟩ = some (.int .u8 (b[j]).toNat)) :
    Calls Try.prog 17 #[.slice (some ⟨g, o, none⟩) b.length c] w fun e w' => ∃ v' ds k, e = .returned (.tuple #[v', .int .i64 (k : Nat)]) ∧ Rc.Told b ds k ∧ (Rc.get (b.drop k)).2 = 0 ∧ Scanned w' w.heap.size v' ds ∧ Below w.heap.size w w' := by
  have H3 := hide h3
  have H2 := hide h2
  have hglt := World.block_lt_of_cell? w _ (h3 0 hp)
  clear h3
  unfold maxLen at h2
  obtain ⟨i0, hi, hz0, hz1, hz2⟩ := info_parts info22
  go_enter Try.func17, Try.ntmps17
  go_wp2_with fail
  go_loopw [4, 5] (fun v4 v5 wr => ∃ (ds : List (List UInt8)) (k : Nat), v5 = .int .i64 k ∧ Rc.Told b ds k ∧ Scanned wr w.heap.size v4 ds ∧ Below w.heap.size w wr) (fun _ v5 _ => b.length - (intOf v5).toNat)
  case atStart => exact ⟨[], 0, rfl, .none, Scanned.nil _ _, Below.refl _ _⟩
  case round =>
    obtain ⟨ds, k, rfl, ht, hs, hb⟩ := hrel
    have hk := ht.le
    have hkc : (k : Int) ≤ (c : Int) := by omega
    have hkl : (k : Int) ≤ (b.length : Int) := by omega
    have h3' : ∀ j (hj : j < b.length), wr.cell? ⟨g, o + j, none⟩ = some (.int .u8 (b[j]).toNat) := fun j hj => (hb.cell (p := ⟨g, o + j, none⟩) hglt).trans (H3.out j hj)
    have hg := rget_any _ _ wr (Bs.drop (w := wr) k hk h1 H2.out h3')
    have HS := hide hs
    have HT := hide ht
    clear hs ht h3'
    by_cases hc : k = c
    · subst hc
      rw [if_pos rfl] at hg
      have e0 : b.drop k = [] := List.drop_eq_nil_of_le (by omega)
      have HG := hide hg
      have hlk : b.length - k = 0 := by omega
      clear hg
      go_wp2_with fail
      refine HG.out.mono ?_
      rintro e w2 ⟨v2, rfl, _, hb2⟩
      have eg : Rc.get (b.drop k) = ([], 0) := by rw [e0]; rfl
      rw [eg]
      have EG := hide eg
      have HB2 := hide hb2
      clear eg hb2 HG e0
      go_wp2_with fail
      go_ret2
      exact ⟨_, ds, k, rfl, HT.out, by rw [EG.out], HS.out.later HB2.out, hb.trans (HB2.out.mono hb.size)⟩
    · rw [if_neg hc] at hg
      have hc' : ¬ c = k := fun e => hc e.symm
      have HG := hide hg
      clear hg
      go_wp2_with fail
      refine HG.out.mono ?_
      rintro e w2 ⟨v2, rfl, hp2, hb2⟩
      have hs2 := hb2.size
      have hs0 := hb.size
      by_cases hz : (Rc.get (b.drop k)).2 = 0
      · have z : (((Rc.get (b.drop k)).2 : Int) == 0) = true := by simp [hz]
        have HZ := hide hz
        have HB2 := hide hb2
        clear hz hb2 HG hp2
        go_wp2_with fail
        go_ret2
        exact ⟨_, ds, k, rfl, HT.out, HZ.out, HS.out.later HB2.out, hb.trans (HB2.out.mono hb.size)⟩
      · have z : (((Rc.get (b.drop k)).2 : Int) == 0) = false := by rw [beq_eq_false_iff_ne]; omega
        have hgl := Rc.get_le (b.drop k)
        rw [List.length_drop] at hgl
        have h7 := Rc.get_seven hz
        have hct := HT.out.count
        obtain ⟨vs, ho0, hps0, hap⟩ := HS.out
        have ho : w2.ownsRow w.heap.size 22 1 u4 ds.length vs := ho0.kept (grown_later hb2) (by cases u4.ownBlock <;> simp)
        have hps := hps0.later hb2
        have HLO := hide ho0.lt
        have HLP := hide hps0.lt
        clear ho0 hps0
        have hne : (Rc.get (b.drop k)).1 ≠ [] := Rc.get_ne hz
        obtain ⟨ao2, l2, c2, rfl⟩ := hp2.shape
        have HP2 := hide hp2
        have HO := hide ho
        have HPS := hide hps
        have HAP := hide hap
        have HB2 := hide hb2
        have HN := hide (Rc.Told.more HT.out hz)
        have HNE := hide hne
        clear hz hb2 hp2 HG ho hps hap hne
        generalize hS : (Rc.get (b.drop k)).2 = s at *
        generalize hD : (Rc.get (b.drop k)).1 = d at *
        clear hS hD
        go_wp2_with (at_builtin; refine wpList_append_keep rfl _ _ 34 rfl w.heap.size 22 i0 (.slice none 0 0) 1 24 Try.underlying34 hi hz0 hz1 hz2 rfl (by decide) _ _ _ rfl (HO.out.alloc _) ⟨w2.heap.size, 0, none⟩ 1 1 [.slice ao2 l2 c2] rfl rfl ?c1 ?c2 ?c3 ?c4 ?c5 ?_)
        case c1 =>
          intro j u hj
          match j, hj with
          | 0, hj => simp at hj; subst hj; simp [Addr.add]
        case c2 => intro u hu; simp at hu; subst hu; rfl
        case c3 => unfold maxLen; omega
        case c4 => omega
        case c5 => simp; omega
        intro v3 w3 ho3 hg3 hat _
        have HO3 := hide ho3
        have HG3 := hide hg3
        have HAT := hide hat
        clear ho3 hg3 hat
        go_wp2_with fail
        go_roundw
        case rel =>
          have ha := (Below.refl w2.heap.size w2).alloc (Nat.le_refl _) (.cells #[.slice ao2 l2 c2] 22)
          have hsa : (w2.alloc (.cells #[.slice ao2 l2 c2] 22)).heap.size = w2.heap.size + 1 := by simp
          have hb3 : Below w.heap.size w w3 := ((hb.trans (HB2.out.mono hs0)).trans (ha.mono (by omega))).grown HG3.out (by omega) (fun k hk => (HLO.out k hk).1)
          have hpl := HP2.out.lt
          have hown : ∀ u ∈ vs, ∀ g, u.ownBlock = some g → u4.ownBlock ≠ some g := fun u hu g h1 h2 => HAP.out u hu g h1 h2
          have hps3 := (HPS.out.later ha).grow HG3.out hown
          have hp3 := (HP2.out.later ha).grow HG3.out (fun g h1 h2 => by have := hpl g h1; have := HLO.out g h2; omega)
          refine ⟨ds ++ [d], k + s, by go_num, HN.out, ⟨vs ++ [.slice ao2 l2 c2], ?_, hps3.push hp3 HNE.out hs0 (fun u hu g hg => (HLP.out u hu g hg).2), ?_⟩, hb3⟩
          · have := HO3.out
            rw [List.length_append, List.length_singleton]
            exact this
          · intro u hu g h1 h2
            have hat := HAT.out
            rw [h2] at hat
            rw [List.mem_append, List.mem_singleton] at hu
            rcases hu with hu | rfl
            · rcases hat with hat | hat
              · exact HAP.out u hu g h1 hat.symm
              · have := (HLP.out u hu g h1).2
                have := Option.some.inj hat
                omega
            · rcases hat with hat | hat
              · have := (HLO.out g hat.symm).2
                have := (hpl g h1).1
                omega
              · have := (hpl g h1).2
                have := Option.some.inj hat
                omega
        case measure => simp [intOf]; omega

theorem scan_any (v : Value) (b : List UInt8) (w : World) (h : Bs w v b) (hn : NilOr v) (hl : b.length ≤ 1000000000000) :
    Calls Try.prog 17 #[v] w fun e w' => ∃ v' ds k, e = .returned (.tuple #[v', .int .i64 (k : Nat)]) ∧ Rc.Told b ds k ∧ (Rc.get (b.drop k)).2 = 0 ∧ Scanned w' w.heap.size v' ds ∧ Below w.heap.size w w' := by
  obtain ⟨ao0, c0, rfl, h1, h2, h3⟩ := id h
  rcases h.parts with ⟨ao, c, e, rfl⟩ | ⟨g, o, c, e, hp, h1', h2', h3'⟩
  · simp only [Value.slice.injEq] at e
    obtain ⟨rfl, _, rfl⟩ := e
    exact (scan_nil ao0 c0 w hn h2).mono fun e w' ⟨he, hb⟩ => ⟨_, [], 0, he, .none, rfl, Scanned.nil _ _, hb⟩
  · rw [e]
    exact scan_some g o c b w hp hl h1' h2' h3'
end Go.Proofs.Ytkohlhnkaklnpaa
