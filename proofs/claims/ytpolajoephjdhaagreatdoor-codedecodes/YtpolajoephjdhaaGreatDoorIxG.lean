import Derived.Test.YtpolajoephjdhaaGreatDoorIxC
import Derived.Test.YtpolajoephjdhaaGreatDoorIxE
import Derived.Test.YtpolajoephjdhaaGreatDoorShD
import Derived.Test.YtpolajoephjdhaaGreatDoorBkI
import Derived.Test.YtpolajoephjdhaaGreatDoorBkM
import Derived.Test.YtpolajoephjdhaaGreatDoorBkJ
import Derived.BigQuiet
/-
  CodeDecodes: what it calls, at its inputs.
-/
namespace Go.Proofs.YtpolajoephjdhaaGreatDoor
open Go.RowKit
set_option maxRecDepth 100000
/-- What bytes are read as: nothing, if they are wrong. -/
def prD (x : Nat ⊕ Pg) : Pg := match x with
  | .inl _ => ⟨[], []⟩
  | .inr p => p
def atD (x : Nat ⊕ Pg) : Int := match x with
  | .inl a => (a : Int)
  | .inr _ => 0
def erD (x : Nat ⊕ Pg) : Int := match x with
  | .inl _ => 130
  | .inr _ => 0
/-- An error that Decode hands back. -/
def ErD (D : Nat) (w : World) (x : Nat ⊕ Pg) (ev : Value) : Prop := match x with
  | .inl a => ∃ N, ev = .iface 74 (.pointer (some ⟨N, 0, none⟩)) ∧ D ≤ N ∧ w.heap[N]? = some (.cells #[.int .i64 (a : Int), .int .i64 130] 76 (0, 0))
  | .inr _ => ev = .nilIface
theorem ErD.mv {D : Nat} {w w' : World} {x : Nat ⊕ Pg} {ev : Value} {S : Nat → Prop} (h : ErD D w x ev) (hm : Mv w w' S) (hs : ∀ j, D ≤ j → j < w.heap.size → ¬ S j) : ErD D w' x ev := by
  cases x with
  | inl a =>
    obtain ⟨N, h1, h2, h3⟩ := h
    exact ⟨N, h1, h2, hm.at h3 (hs N h2 (lt_of_block h3))⟩
  | inr r => exact h
theorem ErD.later {D : Nat} {w w' : World} {x : Nat ⊕ Pg} {ev : Value} (h : ErD D w x ev) (hb : Below w.heap.size w w') : ErD D w' x ev := h.mv (Mv.of_below hb (fun _ => False)) (fun _ _ _ e => e)
theorem ErD.fault {D : Nat} {w : World} {x : Nat ⊕ Pg} {ev : Value} (h : ErD D w x ev) : Calls Tryz.prog 8 #[ev] w fun e w' => e = .returned (.tuple #[.int .i64 (atD x), .int .i64 (erD x), .bool true]) ∧ Below w.heap.size w w' := by
  cases x with
  | inl a =>
    obtain ⟨N, rfl, -, h2⟩ := h
    exact fault_some (a := a) (er := 130) h2 (by decide)
  | inr r =>
    obtain rfl : ev = .nilIface := h
    refine (fault_none w).mono ?_
    rintro e w' ⟨rfl, rfl⟩
    exact ⟨rfl, Below.refl _ _⟩
theorem own_none (N : Nat) (w : World) : PgOwn N w ⟨[], []⟩ (.slice none 0 0) (.slice none 0 0) :=
  ⟨[], [], rfl, rfl, World.ownsRow_nil _ _ _ _, World.ownsRow_nil _ _ _ _, ⟨fun p hp => absurd hp (by simp), List.Pairwise.nil, List.Pairwise.nil⟩, ⟨fun p hp => absurd hp (by simp), List.Pairwise.nil⟩, fun p hp => absurd hp (by simp)⟩
theorem dc_all {W : World} {x : Nat ⊕ Pg} {e : Ending} {w' : World} (h : DcOut W x e w') : Below W.heap.size W w' ∧ ∃ sa n cs af m cf ev, e = .returned (.tuple #[.agg #[.slice sa n cs, .slice af m cf], ev]) ∧ PgOwn W.heap.size w' (prD x) (.slice sa n cs) (.slice af m cf) ∧ ErD W.heap.size w' x ev := by
  obtain ⟨h1, h2⟩ := h
  cases x with
  | inl a =>
    obtain ⟨N, h3, h4, h5⟩ := h2
    exact ⟨h1, none, 0, 0, none, 0, 0, _, h3, own_none _ _, N, rfl, h4, h5⟩
  | inr r =>
    obtain ⟨vs, vf, h3, h4⟩ := h2
    obtain ⟨ls, lf, -, -, o1, o2, -⟩ := id h4
    obtain ⟨a, c, rfl⟩ := own_len o1
    obtain ⟨a', c', rfl⟩ := own_len o2
    exact ⟨h1, _, _, _, _, _, _, _, h3, h4, rfl⟩
theorem dd_all {W : World} {x : Nat ⊕ Pg} {e : Ending} {w' : World} (h : DdOut W x e w') : Below W.heap.size W w' ∧ ∃ sa n cs af m cf, e = .returned (.tuple #[.agg #[.slice sa n cs, .slice af m cf], .int .i64 (atD x), .int .i64 (erD x)]) ∧ PgOwn W.heap.size w' (prD x) (.slice sa n cs) (.slice af m cf) := by
  obtain ⟨h1, h2⟩ := h
  cases x with
  | inl a => exact ⟨h1, none, 0, 0, none, 0, 0, h2, own_none _ _⟩
  | inr r =>
    obtain ⟨vs, vf, h3, h4⟩ := h2
    obtain ⟨ls, lf, -, -, o1, o2, -⟩ := id h4
    obtain ⟨a, c, rfl⟩ := own_len o1
    obtain ⟨a', c', rfl⟩ := own_len o2
    exact ⟨h1, _, _, _, _, _, _, h3, h4⟩
theorem dec_fit (b : List UInt8) : mayOk (prD (decF b)) = true ∧ (∀ y ∈ (prD (decF b)).sys, Sy6 y) ∧ ∀ y ∈ (prD (decF b)).fns, Rt6 y := by
  cases h : decF b with
  | inl a => exact ⟨rfl, fun y hy => absurd hy (by simp [prD]), fun y hy => absurd hy (by simp [prD])⟩
  | inr p => exact (dec_bwd h).2
theorem prog_eq {N M : Nat} {w : World} {b : List UInt8} {vs vf us uf : Value} (h : PgOwn N w (prD (decF b)) vs vf) (h' : PgOwn M w (prD (decF b)) us uf) : Calls Tryz.prog 10 #[.agg #[vs, vf], .agg #[us, uf]] w fun e w' => e = .returned (.bool true) ∧ Below w.heap.size w w' := by
  obtain ⟨k1, k2, k3⟩ := dec_fit b
  exact programs_eq _ (h.pgm k1 k2 k3) (h'.pgm k1 k2 k3)
/-- Where a program's lists lie. -/
theorem blk_in {N : Nat} {w : World} {ls : List (Sy × Sv)} {lf : List (Rt × Value)} {vs vf : Value} (h1 : w.ownsRow N 47 8 vs ls.length (sysC ls)) (h2 : w.ownsRow N 45 4 vf lf.length (rtsC lf)) (h3 : SysOwn N w ls) (h4 : RtsOwn N w lf) {j : Nat} (h : PgBlk ls lf vs vf j) : N ≤ j ∧ j < w.heap.size := by
  rcases h with h | h | ⟨v, hv, h⟩ | ⟨v, hv, h⟩
  · exact h1.lt j h
  · exact h2.lt j h
  · obtain ⟨p, hp, hv⟩ := List.mem_flatMap.1 hv
    exact (h3.1 p hp).block v (List.mem_append_left [p.2.vc] hv) j h
  · rcases List.mem_append.1 hv with hv | hv
    · obtain ⟨p, hp, rfl⟩ := List.mem_map.1 hv
      exact (h3.1 p hp).block _ (by simp) j h
    · obtain ⟨p, hp, rfl⟩ := List.mem_map.1 hv
      exact (h4.1 p hp).lt j h
theorem blk_not {N : Nat} {w : World} {ls : List (Sy × Sv)} {lf : List (Rt × Value)} {vs vf : Value} (h1 : w.ownsRow N 47 8 vs ls.length (sysC ls)) (h2 : w.ownsRow N 45 4 vf lf.length (rtsC lf)) (h3 : SysOwn N w ls) (h4 : RtsOwn N w lf) {j : Nat} (h : PgBlk ls lf vs vf j) (cs : Array Value) : w.heap[j]? ≠ some (.cells cs 76 (0, 0)) := fun e => by
  rcases h with h | h | ⟨v, hv, h⟩ | ⟨v, hv, h⟩
  · exact own_not h1 e (by decide) h
  · exact own_not h2 e (by decide) h
  · obtain ⟨p, hp, hv⟩ := List.mem_flatMap.1 hv
    obtain ⟨⟨o1, o2, o3, o4, -⟩, -⟩ := h3.1 p hp
    simp only [List.mem_cons, List.not_mem_nil, or_false] at hv
    rcases hv with rfl | rfl | rfl | rfl
    · exact own_not o1 e (by decide) h
    · exact own_not o2 e (by decide) h
    · exact own_not o3 e (by decide) h
    · exact own_not o4 e (by decide) h
  · rcases List.mem_append.1 hv with hv | hv
    · obtain ⟨p, hp, rfl⟩ := List.mem_map.1 hv
      obtain ⟨⟨-, -, -, -, o5⟩, -⟩ := h3.1 p hp
      exact own_not o5 e (by decide) h
    · obtain ⟨p, hp, rfl⟩ := List.mem_map.1 hv
      exact own_not (h4.1 p hp) e (by decide) h
/-- What own may write: lists of what was read, no fault. -/
def OwS (N M : Nat) (W : World) (j : Nat) : Prop := (N ≤ j ∧ j < M) ∧ ∀ cs, W.heap[j]? ≠ some (.cells cs 76 (0, 0))
theorem ErD.own {D N M : Nat} {w w' : World} {x : Nat ⊕ Pg} {ev : Value} (h : ErD D w x ev) (hm : Mv w w' (OwS N M w)) : ErD D w' x ev := by
  cases x with
  | inl a =>
    obtain ⟨K, h1, h2, h3⟩ := h
    exact ⟨K, h1, h2, hm.at h3 (fun e => e.2 _ h3)⟩
  | inr r => exact h
theorem own_any {W w : World} {N : Nat} {b : List UInt8} {vs vf : Value} (h : PgOwn N w (prD (decF b)) vs vf) (hb : Below w.heap.size w W) (hN : N ≤ w.heap.size) : Calls Tryz.prog 11 #[.agg #[vs, vf]] W fun e w' => e = .returned (.bool true) ∧ Mv W w' (OwS N w.heap.size W) := by
  obtain ⟨k1, -, -⟩ := dec_fit b
  obtain ⟨ls, lf, e1, e2, h1, h2, h3, h4, h5⟩ := h
  unfold mayOk at k1
  simp only [Bool.and_eq_true, decide_eq_true_eq] at k1
  obtain ⟨⟨⟨⟨a1, a2⟩, a3⟩, a4⟩, -⟩ := k1
  have hm := Mv.of_below hb (fun _ => False)
  have f1 : ∀ p ∈ ls, sysOk p.1 = true := fun p hp => List.all_eq_true.1 a3 p.1 (by rw [e1]; exact List.mem_map.2 ⟨p, hp, rfl⟩)
  have f2 : ∀ p ∈ lf, rtOk p.1 = true := fun p hp => List.all_eq_true.1 a4 p.1 (by rw [e2]; exact List.mem_map.2 ⟨p, hp, rfl⟩)
  refine (own_at (own_later h1 hb) (own_later h2 hb) (h3.mv hm (fun _ _ _ _ _ _ _ _ e => e)) (h4.mv hm (fun _ _ _ _ _ e => e)) h5 (Nat.le_trans hN hb.size) ?_ ?_ ?_ ?_).mono ?_
  · rw [e1, List.length_map] at a1
    exact a1
  · rw [e2, List.length_map] at a2
    exact a2
  · intro l hl
    obtain ⟨p, hp, hl⟩ := List.mem_flatMap.1 hl
    obtain ⟨s1, s2, s3, s4, -⟩ := sysOk_all (f1 p hp)
    have t1 := (setOk_mem s1).2
    have t2 := (setOk_mem s2).2
    have t3 := (setOk_mem s3).2
    have t4 := (setOk_mem s4).2
    simp only [List.mem_cons, List.not_mem_nil, or_false] at hl
    rcases hl with rfl | rfl | rfl | rfl <;> rw [intC_len] <;> omega
  · intro l hl
    rcases List.mem_append.1 hl with hl | hl
    · obtain ⟨p, hp, rfl⟩ := List.mem_map.1 hl
      exact (rtOk_all (sysOk_all (f1 p hp)).2.2.2.2).2.2.2.1
    · obtain ⟨p, hp, rfl⟩ := List.mem_map.1 hl
      exact (rtOk_all (f2 p hp)).2.2.2.1
  · rintro e w' ⟨rfl, hm'⟩
    exact ⟨rfl, hm'.mono (fun j _ hj => ⟨blk_in h1 h2 h3 h4 hj, blk_not (own_later h1 hb) (own_later h2 hb) (h3.mv hm (fun _ _ _ _ _ _ _ _ e => e)) (h4.mv hm (fun _ _ _ _ _ e => e)) hj⟩)⟩
theorem splice_lentB (l : List UInt8) : splice (Lib.byteCells (List.replicate (l.length + 80) 0)) 0 (Lib.byteCells l) = Lib.byteCells (l ++ List.replicate 80 0) := by
  unfold splice
  rw [Lib.byteCells_append]
  simp [Lib.byteCells]
end Go.Proofs.YtpolajoephjdhaaGreatDoor

/-
  CodeDecodes.
-/
namespace Go.Proofs.YtpolajoephjdhaaGreatDoor
open Go.RowKit
set_option maxRecDepth 1000000
set_option maxHeartbeats 16000000 in
theorem decodes_at {W : World} {n c : Nat} {ao : Option Addr} (b : List UInt8) (hn : n = b.length) (_hc1 : n ≤ c) (_hc2 : c ≤ maxLen) (h : Bs W (.slice ao n c) b) (hl : n ≤ 140737488351232) (hk : Kd W) : Calls Tryz.prog 3 #[.slice ao n c] W fun e w' => e = .returned (.bool true) ∧ Below W.heap.size W w' := by
  have FA : Hid (∀ w', Below W.heap.size W w' → Bs w' (.slice ao n c) b ∧ Kd w') := fun w' hb => ⟨h.below hb (Nat.le_refl _), hk.later hb⟩
  have SRC : Hid (∀ w', Below W.heap.size W w' → 0 < n → ∃ ad, ao = some ad ∧ ∀ j v, (Lib.byteCells b)[j]? = some v → w'.cell? (ad.add j) = some v) := fun w' hb h0 => by
    obtain ⟨a2, c2, e, -, -, h3⟩ := h
    injection e with e1 e2 e3
    subst e1
    have := Bs.src h3 hb b.length (Nat.le_refl _) (by omega)
    rw [List.take_length] at this
    exact this
  have BAT : Hid (∀ w', Below W.heap.size W w' → ∀ k (hk : k < b.length), ∃ g o, ao = some ⟨g, o, none⟩ ∧ w'.cell? ⟨g, o + k, none⟩ = some (.int .u8 (b[k]).toNat)) := fun w' hb k hk' => by
    obtain ⟨a2, c2, e, -, -, h3⟩ := (FA.out w' hb).1
    injection e with e1 e2 e3
    subst e1
    exact h3 k hk'
  have HN := hide hn
  obtain ⟨x, hx⟩ : ∃ x, x = decF b := ⟨_, rfl⟩
  have HX := hide hx
  obtain ⟨i0, hi, hz0, hz1, hz2⟩ := info_parts info5
  have J := hide (shown_any W hk)
  have DB : Hid (∀ w' v, Below W.heap.size W w' → Bs w' v b → Calls Tryz.prog 7 #[v] w' fun e w'' => Below w'.heap.size w' w'' ∧ ∃ sa n cs af m cf ev, e = .returned (.tuple #[.agg #[.slice sa n cs, .slice af m cf], ev]) ∧ PgOwn w'.heap.size w'' (prD x) (.slice sa n cs) (.slice af m cf) ∧ ErD w'.heap.size w'' x ev) := fun w' v hb hbs => (decode_any b hbs (by rw [← HN.out]; omega) (FA.out w' hb).2.1).mono fun e w'' ho => dc_all (HX.out ▸ ho)
  clear h hk hn hx
  go_enter Tryz.func3, Tryz.ntmps3
  go_wp2_with fail
  refine J.out.mono ?_
  rintro e w1 ⟨rfl, b1, -⟩
  have X1 := hide b1
  clear J b1
  go_wp2_with (at_make; refine wpList_make_full _ rfl _ _ 22 rfl w1.heap.size 5 i0 (.int .u8 0) 1 Tryz.underlying22 hi hz0 hz1 .i64 .i64 _ _ (n + 80) rfl rfl ?c1 ?c2 ?c3 ?c4 ?c5 ?_)
  case c1 => omega
  case c2 => omega
  case c3 => rw [hz2]; omega
  case c4 => unfold maxLen; omega
  case c5 => omega
  intro w2 hown hgrow
  rw [made_bytes] at hown
  have hb2 : Below w1.heap.size w1 w2 := (Below.refl _ _).grown hgrow (Nat.le_refl _) (by intro k hk; cases hk)
  have hr2 := (own_block hown).1
  have HS := hide (SRC.out w2 (below_on X1.out hb2))
  obtain ⟨g, hg⟩ : ∃ g, g = w1.heap.size := ⟨_, rfl⟩
  rw [← hg] at hr2 ⊢
  have HG : Hid (g = w1.heap.size) := hg
  clear hown hgrow hg
  go_wp2_with (refine wpList_copy_splice rfl _ _ 22 22 rfl 5 Tryz.underlying22 size5 _ _ _ _ _ _ rfl rfl g 0 (Lib.byteCells (List.replicate (n + 80) 0)) 5 hr2 (Lib.byteCells b) ?d1 ?d2 ?d3 (byteCells_one b) w1.heap.size w1 hb2 (by rw [HG.out]; exact Nat.le_refl _) ?_)
  case d1 => rw [Lib.byteCells_length, ← HN.out]; show n = min n (n + 80); omega
  case d2 => intro h0; rw [Lib.byteCells_length, ← HN.out] at h0; first | exact ⟨rfl, HS.out h0⟩ | exact HS.out h0
  case d3 => simp [Lib.byteCells_length]; rw [← HN.out]; omega
  intro w3 hr3 hb3
  have R3 : Hid (Row w3 g (b ++ List.replicate 80 0)) := by
    have := hr3.out
    rw [HN.out, splice_lentB] at this
    exact this
  have X3 := hide (below_on X1.out hb3)
  have G3 : Hid (W.heap.size ≤ g ∧ g < w3.heap.size) := ⟨by rw [HG.out]; exact X1.out.size, R3.out.lt⟩
  clear hr2 hb2 hr3 hb3 HS SRC hi hz0 hz1 hz2 X1 HG
  have BS3 : Hid (∀ w', Row w' g (b ++ List.replicate 80 0) → Bs w' (.slice (some ⟨g, 0, none⟩) n (n + 80)) b) := fun w' hr => by
    have := hr.bs (n := n) (c := n + 80) (by rw [List.length_append, ← HN.out]; omega) (by omega) (by unfold maxLen; omega)
    rw [HN.out, List.take_left' rfl, ← HN.out] at this
    exact this
  have J := hide (DB.out w3 _ X3.out (BS3.out w3 R3.out))
  go_wp2_with fail
  refine J.out.mono ?_
  rintro e w4 ⟨b4, sa, n1, cs, af, m1, cf, ev, rfl, pw, er⟩
  obtain ⟨w5, hw5⟩ : ∃ X, X = w4.alloc (.cells #[.slice sa n1 cs, .slice af m1 cf] 27) := ⟨_, rfl⟩
  have b5 : Below w4.heap.size w4 w5 := hw5 ▸ below_alloc w4 _
  obtain ⟨P, hP⟩ : ∃ P, P = w4.heap.size := ⟨_, rfl⟩
  have n5 : w5.heap[P]? = some (.cells #[.slice sa n1 cs, .slice af m1 cf] 27 (0, 0)) := by rw [hw5, hP]; exact heap_alloc_new w4 _
  have X5 := hide (below_on X3.out (below_on b4 b5))
  have R5 := hide (R3.out.below (below_on b4 b5) R3.out.lt)
  have N5 := hide n5
  have PW4 := hide pw
  have B45 := hide b5
  have E5 := hide (er.later b5)
  have P4 : Hid (P = w4.heap.size) := hP
  have S34 : Hid (w3.heap.size ≤ w4.heap.size) := b4.size
  clear J b4 b5 n5 pw er R3
  go_upto_region 5 with fail
  rw [← hP, ← hw5]
  clear hw5 hP
  have J := hide (DB.out w5 _ X5.out (FA.out w5 X5.out).1)
  go_wp2_with fail
  refine J.out.mono ?_
  rintro e w6 ⟨b6, bs, n2, ds, bf, m2, df, ev2, rfl, pw, er⟩
  obtain ⟨w7, hw7⟩ : ∃ X, X = w6.alloc (.cells #[.slice bs n2 ds, .slice bf m2 df] 27) := ⟨_, rfl⟩
  have b7 : Below w6.heap.size w6 w7 := hw7 ▸ below_alloc w6 _
  obtain ⟨Q, hQ⟩ : ∃ P, P = w6.heap.size := ⟨_, rfl⟩
  have n7 : w7.heap[Q]? = some (.cells #[.slice bs n2 ds, .slice bf m2 df] 27 (0, 0)) := by rw [hw7, hQ]; exact heap_alloc_new w6 _
  have X57 := hide (below_on b6 b7)
  have N7 := hide n7
  have PW7 : Hid (PgOwn w5.heap.size w7 (prD x) (.slice bs n2 ds) (.slice bf m2 df)) := pw.mv (Mv.of_below b7 (fun _ => False)) (fun _ _ _ e => e)
  have E7 := hide (er.later b7)
  have Q5 : Hid (w5.heap.size ≤ Q) := by have := b6.size; unfold Hid; omega
  clear J b6 b7 n7 pw er
  go_upto_region 6 with fail
  rw [← hQ, ← hw7]
  clear hw7 hQ
  obtain ⟨av, hav⟩ : ∃ z, z = atD x := ⟨_, rfl⟩
  obtain ⟨rv, hrv⟩ : ∃ z, z = erD x := ⟨_, rfl⟩
  have FT : Hid (∀ D w' ev, ErD D w' x ev → Calls Tryz.prog 8 #[ev] w' fun e w'' => e = .returned (.tuple #[.int .i64 av, .int .i64 rv, .bool true]) ∧ Below w'.heap.size w' w'') := fun D w' ev h => by rw [hav, hrv]; exact h.fault
  have DD : Hid (∀ w', Below W.heap.size W w' → Calls Tryz.prog 9 #[.slice ao n c] w' fun e w'' => Below w'.heap.size w' w'' ∧ ∃ sa n cs af m cf, e = .returned (.tuple #[.agg #[.slice sa n cs, .slice af m cf], .int .i64 av, .int .i64 rv]) ∧ PgOwn w'.heap.size w'' (prD x) (.slice sa n cs) (.slice af m cf)) := fun w' hb => by
    rw [hav, hrv]
    exact (ddecode_at b (FA.out w' hb).1 (by rw [← HN.out]; omega)).mono fun e w'' ho => dd_all (HX.out ▸ ho)
  clear hav hrv
  have J := hide (FT.out _ w7 ev (E5.out.later X57.out))
  go_wp2_with fail
  refine J.out.mono ?_
  rintro e w8 ⟨rfl, b8⟩
  have X78 := hide b8
  clear J b8
  have J := hide (FT.out _ w8 ev2 (E7.out.later X78.out))
  go_wp2_with fail
  refine J.out.mono ?_
  rintro e w9 ⟨rfl, b9⟩
  have X79 := hide (below_on X78.out b9)
  have XW9 := hide (below_on X5.out (below_on X57.out X79.out))
  clear J b9 X78
  have J := hide (DD.out w9 XW9.out)
  go_wp2_with fail
  refine J.out.mono ?_
  rintro e w10 ⟨b10, es, n3, fs, ef, m3, ff, rfl, pw⟩
  obtain ⟨w11, hw11⟩ : ∃ X, X = w10.alloc (.cells #[.slice es n3 fs, .slice ef m3 ff] 27) := ⟨_, rfl⟩
  have b11 : Below w10.heap.size w10 w11 := hw11 ▸ below_alloc w10 _
  obtain ⟨R, hR⟩ : ∃ P, P = w10.heap.size := ⟨_, rfl⟩
  have n11 : w11.heap[R]? = some (.cells #[.slice es n3 fs, .slice ef m3 ff] 27 (0, 0)) := by rw [hw11, hR]; exact heap_alloc_new w10 _
  have X911 := hide (below_on b10 b11)
  have X711 := hide (below_on X79.out X911.out)
  have X511 := hide (below_on X57.out X711.out)
  have N11 := hide n11
  have PW11 : Hid (PgOwn w9.heap.size w11 (prD x) (.slice es n3 fs) (.slice ef m3 ff)) := pw.mv (Mv.of_below b11 (fun _ => False)) (fun _ _ _ e => e)
  have R9 : Hid (w9.heap.size ≤ R) := by have := b10.size; unfold Hid; omega
  clear J b10 b11 n11 pw
  go_upto_region 9 with fail
  rw [← hR, ← hw11]
  clear hw11 hR
  obtain ⟨p0, p1⟩ := row2 ((X511.out.block P (lt_of_block N5.out)).trans N5.out)
  obtain ⟨r0, r1⟩ := row2 N11.out
  have PW5 : Hid (PgOwn w3.heap.size w11 (prD x) (.slice sa n1 cs) (.slice af m1 cf)) := (PW4.out.mv (Mv.of_below B45.out (fun _ => False)) (fun _ _ _ e => e)).mv (Mv.of_below X511.out (fun _ => False)) (fun _ _ _ e => e)
  have J : Hid (Calls Tryz.prog 10 #[.agg #[.slice sa n1 cs, .slice af m1 cf], .agg #[.slice es n3 fs, .slice ef m3 ff]] w11 fun e w' => e = .returned (.bool true) ∧ Below w11.heap.size w11 w') := by
    have h1 := PW5.out
    have h2 := PW11.out
    rw [HX.out] at h1 h2
    exact prog_eq h1 h2
  go_wp2_with fail
  refine J.out.mono ?_
  rintro e w12 ⟨rfl, b12⟩
  have X12 := hide b12
  clear J b12 p0 p1 r0 r1 PW5
  obtain ⟨p0, p1⟩ := row2 (((below_on X511.out X12.out).block P (lt_of_block N5.out)).trans N5.out)
  have J : Hid (Calls Tryz.prog 11 #[.agg #[.slice sa n1 cs, .slice af m1 cf]] w12 fun e w' => e = .returned (.bool true) ∧ Mv w12 w' (OwS w3.heap.size w4.heap.size w12)) := by
    have h1 := PW4.out
    rw [HX.out] at h1
    exact own_any h1 (below_on B45.out (below_on X511.out X12.out)) S34.out
  go_wp2_with fail
  refine J.out.mono ?_
  rintro e w13 ⟨rfl, m13⟩
  have l5 := lt_of_block N5.out
  have l7 := lt_of_block N7.out
  have l11 := lt_of_block N11.out
  have hP4 := P4.out
  have hQ5 := Q5.out
  have hR9 := R9.out
  have s57 := X57.out.size
  have s79 := X79.out.size
  have s911 := X911.out.size
  have s12 := X12.out.size
  have hg3 := G3.out
  have hw3 := X3.out.size
  have R13 : Hid (Row w13 g (b ++ List.replicate 80 0)) := m13.at ((below_on X511.out X12.out).block g R5.out.lt |>.trans R5.out) (fun e => by have := e.1; omega)
  have N13 : Hid (w13.heap[Q]? = some (.cells #[.slice bs n2 ds, .slice bf m2 df] 27 (0, 0))) := m13.at (((below_on X711.out X12.out).block Q l7).trans N7.out) (fun e => by have := e.1; omega)
  have NR13 : Hid (w13.heap[R]? = some (.cells #[.slice es n3 fs, .slice ef m3 ff] 27 (0, 0))) := m13.at ((X12.out.block R l11).trans N11.out) (fun e => by have := e.1; omega)
  have PQ13 : Hid (PgOwn w5.heap.size w13 (prD x) (.slice bs n2 ds) (.slice bf m2 df)) := (PW7.out.mv (Mv.of_below (below_on X711.out X12.out) (fun _ => False)) (fun _ _ _ e => e)).mv m13 (fun j h1 _ e => by have := e.1; omega)
  have PR13 : Hid (PgOwn w9.heap.size w13 (prD x) (.slice es n3 fs) (.slice ef m3 ff)) := (PW11.out.mv (Mv.of_below X12.out (fun _ => False)) (fun _ _ _ e => e)).mv m13 (fun j h1 _ e => by have := e.1; omega)
  have EA13 := hide ((E5.out.later (below_on X511.out X12.out)).own m13)
  have EB13 := hide ((E7.out.later (below_on X711.out X12.out)).own m13)
  have XW12 := hide (below_on XW9.out (below_on X911.out X12.out))
  have X13 : Hid (Below W.heap.size W w13) := XW12.out.trans (m13.below XW12.out.size (fun j e => by have := e.1; omega))
  clear J p0 p1 m13 l5 l7 l11 hP4 hQ5 hR9 s57 s79 s911 s12 hg3 hw3 X12 X511 X711 X911 X79 X57 X5 E5 E7 N5 N7 N11 PW4 PW7 PW11 R5 XW9 XW12 B45 P4 S34 Q5 R9
  obtain ⟨p0, p1⟩ := row2 N13.out
  obtain ⟨r0, r1⟩ := row2 NR13.out
  have J : Hid (Calls Tryz.prog 10 #[.agg #[.slice bs n2 ds, .slice bf m2 df], .agg #[.slice es n3 fs, .slice ef m3 ff]] w13 fun e w' => e = .returned (.bool true) ∧ Below w13.heap.size w13 w') := by
    have h1 := PQ13.out
    have h2 := PR13.out
    rw [HX.out] at h1 h2
    exact prog_eq h1 h2
  go_wp2_with fail
  refine J.out.mono ?_
  rintro e w14 ⟨rfl, b14⟩
  have X14 := hide b14
  clear J b14 p0 p1 r0 r1 PQ13 PR13 N13 NR13
  obtain ⟨w15, hw15⟩ : ∃ X, X = w14.alloc (.cells #[.int .u8 0, .int .u8 0, .int .u8 0, .int .u8 0] 5) := ⟨_, rfl⟩
  have b15 : Below w14.heap.size w14 w15 := hw15 ▸ below_alloc w14 _
  obtain ⟨Z, hZ⟩ : ∃ P, P = w14.heap.size := ⟨_, rfl⟩
  have n15 : Row w15 Z [0, 0, 0, 0] := by
    unfold Row
    rw [hw15, hZ]
    exact heap_alloc_new w14 _
  have X15 := hide (below_on X14.out b15)
  have J := hide ((decode_any [0, 0, 0, 0] (n15.bs (n := 4) (c := 4) (by decide) (by decide) (by decide)) (by decide) (FA.out w15 (below_on X13.out X15.out)).2.1).mono fun e w'' ho => dc_all ho)
  clear n15 b15
  go_wp2_with fail
  rw [← hZ, ← hw15]
  clear hw15 hZ
  refine J.out.mono ?_
  rintro e w16 ⟨b16, a9, n9, c9, f9, m9, d9, e9, rfl, -, -⟩
  have X16 := hide (below_on X15.out b16)
  clear J b16 X15 X14
  have J := hide (FT.out _ w16 ev (EA13.out.later X16.out))
  go_wp2_with fail
  refine J.out.mono ?_
  rintro e w17 ⟨rfl, b17⟩
  have X17 := hide (below_on X16.out b17)
  clear J b17 X16
  have J := hide (FT.out _ w17 ev2 (EB13.out.later X17.out))
  go_wp2_with fail
  refine J.out.mono ?_
  rintro e w18 ⟨rfl, b18⟩
  have X18 := hide (below_on X17.out b18)
  have R18 := hide (R13.out.below X18.out R13.out.lt)
  have XW18 := hide (below_on X13.out X18.out)
  clear J b18 X17 EA13 EB13 R13 X18 X13
  go_wp2_with fail
  go_loopw [21] (fun v wr => ∃ k : Nat, v = .int .i64 (k : Int) ∧ k ≤ n + 80 ∧ Hid (Below w18.heap.size w18 wr)) (fun v _ => n + 80 - (intOf v).toNat)
  case atStart => exact ⟨0, rfl, by omega, Below.refl _ _⟩
  case round =>
    obtain ⟨k, rfl, hk, hb⟩ := hrel
    have Rk := hide (R18.out.below hb.out R18.out.lt)
    by_cases hlt : k < n + 80
    · have i9 : (k : Int) < (n : Int) + 80 := by omega
      have e2 := Rk.out.cell k (by rw [List.length_append, ← HN.out, List.length_replicate]; exact hlt)
      by_cases hkn : k < n
      · have hkb : k < b.length := by rw [← HN.out]; exact hkn
        obtain ⟨g2, o2, rfl, e1⟩ := BAT.out wr (below_on XW18.out hb.out) k hkb
        rw [List.getElem_append_left hkb] at e2
        generalize ((b[k]).toNat : Int) = bv at e1 e2
        have i1 : (k : Int) < (n : Int) := by omega
        have i2 : ¬ (n : Int) ≤ (k : Int) := by omega
        have i3 : decide ((n : Int) ≤ (k : Int)) = false := by simpa using i2
        have i4 : decide ((k : Int) < (n : Int)) = true := by simpa using i1
        clear hkb
        go_upto_region 18 with fail
        go_quiet (fail)
        have B3 := hide (below_on hb.out (below_drawn wr nq))
        go_wp2_with fail
        exact ⟨⟨k + 1, by go_num, by omega, B3.out⟩, by simp [intOf]; omega⟩
      · rw [List.getElem_append_right (by rw [← HN.out]; omega), List.getElem_replicate] at e2
        have i1 : ¬ (k : Int) < (n : Int) := by omega
        have i2 : (n : Int) ≤ (k : Int) := by omega
        have i3 : decide ((n : Int) ≤ (k : Int)) = true := by simpa using i2
        have i4 : decide ((k : Int) < (n : Int)) = false := by simpa using i1
        have e3 : wr.cell? ⟨g, k, none⟩ = some (.int .u8 0) := e2
        clear e2
        go_upto_region 18 with fail
        go_quiet (fail)
        have B3 := hide (below_on hb.out (below_drawn wr nq))
        go_wp2_with fail
        exact ⟨⟨k + 1, by go_num, by omega, B3.out⟩, by simp [intOf]; omega⟩
    · obtain rfl : k = n + 80 := by omega
      have XW := hide (below_on XW18.out hb.out)
      clear hb R18 XW18 BAT DD DB HX FT
      go_upto_if 165 with fail
      go_cut [165] (fun _ wx => ∃ b2 : List UInt8, Hid (b2.length = n) ∧ Hid (Row wx g (b2 ++ List.replicate 80 0)) ∧ Hid (Mv wr wx (fun j => j = g)))
      case first =>
        by_cases h0 : 0 < n
        · have h1 : n / 2 < b.length := by rw [← HN.out]; omega
          have e2 := Rk.out.cell (n / 2) (by rw [List.length_append]; omega)
          rw [List.getElem_append_left h1] at e2
          have hf := Rk.out.frozen (n / 2)
          have i1 : (0 : Int) < (n : Int) := by omega
          have i2 : Int.tdiv (n : Int) 2 = ((n / 2 : Nat) : Int) := rfl
          have i3 : ((n / 2 : Nat) : Int) < (n : Int) + 80 := by omega
          have hu : ((b[n / 2]).toNat : Int) ≤ 255 := by have := (b[n / 2]).toNat_lt; omega
          have NX := Rk.out.set (n / 2) (b[n / 2] + 1)
          rw [List.set_append_left _ _ h1] at NX
          have hv : ((b[n / 2] + 1).toNat : Int) = ((b[n / 2]).toNat + 1 : Int) % 256 := by
            rw [UInt8.toNat_add]
            simp
          rw [hv] at NX
          have LN : Hid ((b.set (n / 2) (b[n / 2] + 1)).length = n) := by unfold Hid; rw [List.length_set]; exact HN.out.symm
          generalize b.set (n / 2) (b[n / 2] + 1) = b2 at NX LN
          have NY := hide NX
          obtain ⟨bv, hbv⟩ : ∃ z : Int, z = ((b[n / 2]).toNat : Int) := ⟨_, rfl⟩
          rw [← hbv] at e2 hu NY
          have hb0 : 0 ≤ bv := by omega
          obtain ⟨q, hq⟩ : ∃ q, q = n / 2 := ⟨_, rfl⟩
          rw [← hq] at e2 hf i2 i3 NY
          have MY := hide ((Mv.refl wr (fun j => j = g)).set (g := g) rfl q (.int .u8 ((bv + 1) % 256)))
          clear NX hv hbv h1 hq
          go_wp2_with fail
          go_meet
          exact ⟨b2, LN.out, NY.out, MY.out⟩
        · have h1 : n = 0 := by omega
          have i1 : ¬ (0 : Int) < (n : Int) := by omega
          have LN : Hid (b.length = n) := HN.out.symm
          clear h1
          go_wp2_with fail
          go_meet
          exact ⟨b, LN.out, Rk.out, Mv.refl _ _⟩
      obtain ⟨b2, HL, HR, HM⟩ := hcut
      obtain ⟨x2, hx2⟩ : ∃ x, x = decF b2 := ⟨_, rfl⟩
      have HX2 := hide hx2
      have XC : Hid (Below W.heap.size W wc) := XW.out.trans (HM.out.below XW.out.size (fun j e => by rw [e]; exact G3.out.1))
      have BS3 : Hid (∀ w', Row w' g (b2 ++ List.replicate 80 0) → Bs w' (.slice (some ⟨g, 0, none⟩) n (n + 80)) b2) := fun w' hr => by
        have := hr.bs (n := n) (c := n + 80) (by rw [List.length_append, HL.out]; omega) (by omega) (by unfold maxLen; omega)
        rw [← HL.out, List.take_left' rfl, HL.out] at this
        exact this
      have J := hide ((decode_any b2 (BS3.out wc HR.out) (by rw [HL.out]; omega) (FA.out wc XC.out).2.1).mono fun e w'' ho => dc_all (HX2.out ▸ ho))
      clear Rk HM hx2 XW
      go_wp2_with fail
      refine J.out.mono ?_
      rintro e w4 ⟨b4, sa, n1, cs, af, m1, cf, ev, rfl, pw, er⟩
      obtain ⟨w5, hw5⟩ : ∃ X, X = w4.alloc (.cells #[.slice sa n1 cs, .slice af m1 cf] 27) := ⟨_, rfl⟩
      have b5 : Below w4.heap.size w4 w5 := hw5 ▸ below_alloc w4 _
      obtain ⟨P, hP⟩ : ∃ P, P = w4.heap.size := ⟨_, rfl⟩
      have n5 : w5.heap[P]? = some (.cells #[.slice sa n1 cs, .slice af m1 cf] 27 (0, 0)) := by rw [hw5, hP]; exact heap_alloc_new w4 _
      have X5 := hide (below_on XC.out (below_on b4 b5))
      have R5 := hide (HR.out.below (below_on b4 b5) HR.out.lt)
      have N5 := hide n5
      have PW5 : Hid (PgOwn wc.heap.size w5 (prD x2) (.slice sa n1 cs) (.slice af m1 cf)) := pw.mv (Mv.of_below b5 (fun _ => False)) (fun _ _ _ e => e)
      have E5 := hide (er.later b5)
      clear J b4 b5 n5 pw er HR
      go_upto_region 25 with fail
      rw [← hP, ← hw5]
      clear hw5 hP
      obtain ⟨av2, hav⟩ : ∃ z, z = atD x2 := ⟨_, rfl⟩
      obtain ⟨rv2, hrv⟩ : ∃ z, z = erD x2 := ⟨_, rfl⟩
      have FT : Hid (∀ D w' ev, ErD D w' x2 ev → Calls Tryz.prog 8 #[ev] w' fun e w'' => e = .returned (.tuple #[.int .i64 av2, .int .i64 rv2, .bool true]) ∧ Below w'.heap.size w' w'') := fun D w' ev h => by rw [hav, hrv]; exact h.fault
      have J : Hid (Calls Tryz.prog 9 #[.slice (some ⟨g, 0, none⟩) n (n + 80)] w5 fun e w'' => Below w5.heap.size w5 w'' ∧ ∃ sa n cs af m cf, e = .returned (.tuple #[.agg #[.slice sa n cs, .slice af m cf], .int .i64 av2, .int .i64 rv2]) ∧ PgOwn w5.heap.size w'' (prD x2) (.slice sa n cs) (.slice af m cf)) := by
        rw [hav, hrv]
        exact (ddecode_at b2 (BS3.out w5 R5.out) (by rw [HL.out]; omega)).mono fun e w'' ho => dd_all (HX2.out ▸ ho)
      clear hav hrv
      go_wp2_with fail
      refine J.out.mono ?_
      rintro e w6 ⟨b6, bs, n2, ds, bf, m2, df, rfl, pw⟩
      obtain ⟨w7, hw7⟩ : ∃ X, X = w6.alloc (.cells #[.slice bs n2 ds, .slice bf m2 df] 27) := ⟨_, rfl⟩
      have b7 : Below w6.heap.size w6 w7 := hw7 ▸ below_alloc w6 _
      obtain ⟨Q, hQ⟩ : ∃ P, P = w6.heap.size := ⟨_, rfl⟩
      have n7 : w7.heap[Q]? = some (.cells #[.slice bs n2 ds, .slice bf m2 df] 27 (0, 0)) := by rw [hw7, hQ]; exact heap_alloc_new w6 _
      have X57 := hide (below_on b6 b7)
      have N7 := hide n7
      have PW7 : Hid (PgOwn w5.heap.size w7 (prD x2) (.slice bs n2 ds) (.slice bf m2 df)) := pw.mv (Mv.of_below b7 (fun _ => False)) (fun _ _ _ e => e)
      clear J b6 b7 n7 pw
      go_upto_region 26 with fail
      rw [← hQ, ← hw7]
      clear hw7 hQ
      have J := hide (FT.out _ w7 ev (E5.out.later X57.out))
      go_wp2_with fail
      refine J.out.mono ?_
      rintro e w8 ⟨rfl, b8⟩
      have X78 := hide b8
      have X58 := hide (below_on X57.out b8)
      clear J b8
      obtain ⟨p0, p1⟩ := row2 ((X58.out.block P (lt_of_block N5.out)).trans N5.out)
      obtain ⟨r0, r1⟩ := row2 ((X78.out.block Q (lt_of_block N7.out)).trans N7.out)
      have J : Hid (Calls Tryz.prog 10 #[.agg #[.slice sa n1 cs, .slice af m1 cf], .agg #[.slice bs n2 ds, .slice bf m2 df]] w8 fun e w' => e = .returned (.bool true) ∧ Below w8.heap.size w8 w') := by
        have h1 := PW5.out.mv (Mv.of_below X58.out (fun _ => False)) (fun _ _ _ e => e)
        have h2 := PW7.out.mv (Mv.of_below X78.out (fun _ => False)) (fun _ _ _ e => e)
        rw [HX2.out] at h1 h2
        exact prog_eq h1 h2
      go_wp2_with fail
      refine J.out.mono ?_
      rintro e w9 ⟨rfl, b9⟩
      have FIN := hide (below_on X5.out (below_on X58.out b9))
      clear J b9 p0 p1 r0 r1 PW5 PW7 N5 N7 X5 X57 X58 X78 E5 FT
      go_wp2_with fail
      go_ret
      exact ⟨rfl, FIN.out⟩
end Go.Proofs.YtpolajoephjdhaaGreatDoor
