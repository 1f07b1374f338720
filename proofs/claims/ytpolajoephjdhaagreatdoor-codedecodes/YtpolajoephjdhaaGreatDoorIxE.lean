import Derived.Test.YtpolajoephjdhaaGreatDoorIxD
import Derived.Test.YtpolajoephjdhaaGreatDoorDdD
/-
  The document's Decode: what holds of a reader that has met a fault.
-/
namespace Go.Proofs.YtpolajoephjdhaaGreatDoor
theorem setR_bad {b : List UInt8} {s : Rs} (h : s.bad = true) : setR b s = s := by
  unfold setR
  rw [numR_bad h]
  exact setG_bad _ _ h
theorem sys_bad {b : List UInt8} {s : Rs} (h : s.bad = true) : sysR b s = s := by
  unfold sysR syS4 syS3 syS2 syS1
  rw [setR_bad h, setR_bad h, setR_bad h, setR_bad h, rtn_bad h]
theorem sysG_bad {b : List UInt8} : ∀ (n : Nat) {s : Rs}, s.bad = true → sysG b n s = s
  | 0, _, _ => rfl
  | n + 1, s, h => by
    rw [sysG, sys_bad h]
    exact sysG_bad n h
theorem rtsG_bad {b : List UInt8} : ∀ (n : Nat) {s : Rs}, s.bad = true → rtsG b n s = s
  | 0, _, _ => rfl
  | n + 1, s, h => by
    rw [rtsG, rtn_bad h]
    exact rtsG_bad n h
theorem good_of {f : Rs → Rs} (hf : ∀ s, s.bad = true → f s = s) {s : Rs} (h : (f s).bad = false) : s.bad = false := by
  cases hb : s.bad with
  | false => rfl
  | true =>
    rw [hf s hb, hb] at h
    cases h
/-- A system that was read well: no reader on its way had met a fault. -/
theorem sys_good {b : List UInt8} {s : Rs} (h : (sysR b s).bad = false) : (syS1 b s).bad = false ∧ (syS2 b s).bad = false ∧ (syS3 b s).bad = false ∧ (syS4 b s).bad = false := by
  have h4 : (syS4 b s).bad = false := good_of (f := rtnR b) (fun _ e => rtn_bad e) h
  have h3 : (syS3 b s).bad = false := good_of (f := setR b) (fun _ e => setR_bad e) h4
  have h2 : (syS2 b s).bad = false := good_of (f := setR b) (fun _ e => setR_bad e) h3
  have h1 : (syS1 b s).bad = false := good_of (f := setR b) (fun _ e => setR_bad e) h2
  exact ⟨h1, h2, h3, h4⟩
theorem sysV_of {b : List UInt8} {s : Rs} {l1 l2 l3 l4 : List Int} {r : Rt} (h1 : (setR b s).bad = false → l1 = setV b s) (h2 : (setR b (syS1 b s)).bad = false → l2 = setV b (syS1 b s)) (h3 : (setR b (syS2 b s)).bad = false → l3 = setV b (syS2 b s)) (h4 : (setR b (syS3 b s)).bad = false → l4 = setV b (syS3 b s)) (h5 : (rtnR b (syS4 b s)).bad = false → r = rtnV b (syS4 b s)) (h : (sysR b s).bad = false) : (⟨l1, l2, l3, l4, r⟩ : Sy) = sysV b s := by
  obtain ⟨g1, g2, g3, g4⟩ := sys_good h
  rw [h1 g1, h2 g2, h3 g3, h4 g4, h5 h]
  rfl
theorem sysG_num {b : List UInt8} {l m : Nat} {s : Rs} : sysG b (dnmV b l m s) (numR b l m s) = sysG b (numV b l m s) (numR b l m s) := by
  cases h : (numR b l m s).bad with
  | false => rw [dnmV_ok h]
  | true => rw [sysG_bad _ h, sysG_bad _ h]
theorem rtsG_num {b : List UInt8} {l m : Nat} {s : Rs} : rtsG b (dnmV b l m s) (numR b l m s) = rtsG b (numV b l m s) (numR b l m s) := by
  cases h : (numR b l m s).bad with
  | false => rw [dnmV_ok h]
  | true => rw [rtsG_bad _ h, rtsG_bad _ h]
theorem pgS2_doc (b : List UInt8) (s : Rs) : sysG b (dnmV b 0 16 s) (pgS1 b s) = pgS2 b s := sysG_num
theorem pgR_doc (b : List UInt8) (s : Rs) : rtsG b (dnmV b 0 16 (pgS2 b s)) (pgS3 b s) = pgR b s := rtsG_num
/-- A program that was read well: so were its parts, and the counts are those that were read. -/
theorem pg_good {b : List UInt8} {s : Rs} (h : (pgR b s).bad = false) : (pgS1 b s).bad = false ∧ (pgS2 b s).bad = false ∧ (pgS3 b s).bad = false ∧ dnmV b 0 16 s = pgN1 b s ∧ dnmV b 0 16 (pgS2 b s) = pgN2 b s := by
  have h3 : (pgS3 b s).bad = false := good_of (f := rtsG b (pgN2 b s)) (fun _ e => rtsG_bad _ e) h
  have h2 : (pgS2 b s).bad = false := good_of (f := numR b 0 16) (fun _ e => numR_bad e) h3
  have h1 : (pgS1 b s).bad = false := good_of (f := sysG b (pgN1 b s)) (fun _ e => sysG_bad _ e) h2
  exact ⟨h1, h2, h3, dnmV_ok h1, dnmV_ok h3⟩
end Go.Proofs.YtpolajoephjdhaaGreatDoor

/-
  The document's Decode: a program, and a system, while they are read.
-/
namespace Go.Proofs.YtpolajoephjdhaaGreatDoor
open Go.RowKit
section
variable {W W' : World} {B k : Nat} {b : List UInt8} {s : Rs}
/-- While the document reads a program. -/
def Lpd (W w : World) (B k : Nat) (b : List UInt8) (s : Rs) (r2 r6 : Nat) (x y : Value) : Prop :=
  w.heap[r2]? = some (.cells #[.slice none 0 0, .slice none 0 0] 27 (0, 0)) ∧ w.heap[r6]? = some (.cells #[x, y] 27 (0, 0)) ∧ Rdd w B k b s ∧ Mv W w (fun j => j = k) ∧ r2 < k ∧ k < r6 ∧ W.heap.size ≤ r2
theorem Lpd.call {w w' : World} {s' : Rs} {r2 r6 : Nat} {x y : Value} (h : Lpd W w B k b s r2 r6 x y) (hr : Rdd w' B k b s') (hm : Mv w w' (fun j => j = k)) : Lpd W w' B k b s' r2 r6 x y := by
  obtain ⟨h1, h2, h3, h4, h5, h6, h7⟩ := h
  exact ⟨hm.at h1 (by omega), hm.at h2 (by omega), hr, h4.trans hm (fun _ _ e => e), h5, h6, h7⟩
theorem Lpd.later {w w' : World} {r2 r6 : Nat} {x y : Value} (h : Lpd W w B k b s r2 r6 x y) (hb : Below w.heap.size w w') : Lpd W w' B k b s r2 r6 x y := h.call (h.2.2.1.later hb) (Mv.of_below hb _)
theorem Lpd.set {w : World} {r2 r6 i : Nat} {x y x' y' v : Value} (h : Lpd W w B k b s r2 r6 x y) (he : (#[x, y] : Array Value).setIfInBounds i v = #[x', y']) : Lpd W (w.setCell ⟨r6, i, none⟩ v) B k b s r2 r6 x' y' := by
  obtain ⟨h1, h2, h3, h4, h5, h6, h7⟩ := h
  have hk := h3.1
  have m := (Mv.refl w (fun j => j = r6)).set (g := r6) rfl i v
  have e := heap_setCell_same w r6 i _ 27 v h2
  rw [he] at e
  exact ⟨m.at h1 (by omega), e, h3.mv m (fun j e => by omega), h4.trans m (fun j hj e => by omega), h5, h6, h7⟩
theorem Lpd.grow {w w' : World} {r2 r6 : Nat} {x y : Value} {S : Nat → Prop} (h : Lpd W w B k b s r2 r6 x y) (hm : Mv w w' S) (hs : ∀ j, S j → r6 + 1 ≤ j) : Lpd W w' B k b s r2 r6 x y := by
  obtain ⟨h1, h2, h3, h4, h5, h6, h7⟩ := h
  have hk := h3.1
  exact ⟨hm.at h1 (fun e => by have := hs _ e; omega), hm.at h2 (fun e => by have := hs _ e; omega), h3.mv hm (fun j e => by have := hs _ e; omega), h4.trans hm (fun j hj e => by have := hs _ e; omega), h5, h6, h7⟩
/-- While the document reads a system. -/
def Lsd (W w : World) (B k : Nat) (b : List UInt8) (s : Rs) (r2 r6 : Nat) (x y : Value) (r9 : Nat) (x1 x2 x3 x4 x5 x6 x7 x8 : Value) : Prop :=
  Lpd W w B k b s r2 r6 x y ∧ w.heap[r9]? = some (.cells #[x1, x2, x3, x4, x5, x6, x7, x8] 47 (0, 0)) ∧ r6 < r9
theorem Lsd.call {w w' : World} {s' : Rs} {r2 r6 r9 : Nat} {x y x1 x2 x3 x4 x5 x6 x7 x8 : Value} (h : Lsd W w B k b s r2 r6 x y r9 x1 x2 x3 x4 x5 x6 x7 x8) (hr : Rdd w' B k b s') (hm : Mv w w' (fun j => j = k)) : Lsd W w' B k b s' r2 r6 x y r9 x1 x2 x3 x4 x5 x6 x7 x8 := by
  obtain ⟨h1, h2, h3⟩ := h
  have := h1.2.2.2.2.2.1
  exact ⟨h1.call hr hm, hm.at h2 (by omega), h3⟩
theorem Lsd.set {w : World} {r2 r6 r9 i : Nat} {x y x1 x2 x3 x4 x5 x6 x7 x8 y1 y2 y3 y4 y5 y6 y7 y8 v : Value} (h : Lsd W w B k b s r2 r6 x y r9 x1 x2 x3 x4 x5 x6 x7 x8) (he : (#[x1, x2, x3, x4, x5, x6, x7, x8] : Array Value).setIfInBounds i v = #[y1, y2, y3, y4, y5, y6, y7, y8]) : Lsd W (w.setCell ⟨r9, i, none⟩ v) B k b s r2 r6 x y r9 y1 y2 y3 y4 y5 y6 y7 y8 := by
  obtain ⟨h1, h2, h3⟩ := h
  have m := (Mv.refl w (fun j => j = r9)).set (g := r9) rfl i v
  have e := heap_setCell_same w r9 i _ 47 v h2
  rw [he] at e
  exact ⟨h1.grow m (fun j e => by omega), e, h3⟩
theorem Lsd.row {w : World} {r2 r6 r9 : Nat} {x y x1 x2 x3 x4 x5 x6 x7 x8 : Value} (h : Lsd W w B k b s r2 r6 x y r9 x1 x2 x3 x4 x5 x6 x7 x8) : (w.cell? ⟨r9, 0, none⟩ = some x1 ∧ w.cell? ⟨r9, 1, none⟩ = some x2 ∧ w.cell? ⟨r9, 2, none⟩ = some x3 ∧ w.cell? ⟨r9, 3, none⟩ = some x4 ∧ w.cell? ⟨r9, 4, none⟩ = some x5 ∧ w.cell? ⟨r9, 5, none⟩ = some x6 ∧ w.cell? ⟨r9, 6, none⟩ = some x7 ∧ w.cell? ⟨r9, 7, none⟩ = some x8) ∧ ∀ q, w.frozen? ⟨r9, q, none⟩ = false := ⟨row8 h.2.1, fun q => frozen_of_row w r9 q _ 47 h.2.1⟩
/-- What the document's Decode hands back: the place of what is wrong and its reason, or a program. -/
def DdOut (W : World) (r : Nat ⊕ Pg) (e : Ending) (w' : World) : Prop :=
  Below W.heap.size W w' ∧ match r with
  | .inl a => e = .returned (.tuple #[.agg #[.slice none 0 0, .slice none 0 0], .int .i64 (a : Int), .int .i64 130])
  | .inr p => ∃ vs vf, e = .returned (.tuple #[.agg #[vs, vf], .int .i64 0, .int .i64 0]) ∧ PgOwn W.heap.size w' p vs vf
end
end Go.Proofs.YtpolajoephjdhaaGreatDoor

/-
  The document's Decode.
-/
namespace Go.Proofs.YtpolajoephjdhaaGreatDoor
open Go.RowKit
set_option maxRecDepth 100000
theorem results_ctt9 {fn : Func} {p u v : Tmp} {ty : TypeId} (h : fn.results = #[.cell p ty, .tmp u, .tmp v]) (tmps : Array Value) (P : Program) (w : World) :
    (results fn tmps).run P w = ((asAddr (tmps.getD p undef)).run P w).andThen fun a w₁ => ((loadVar ty a).run P w₁).andThen fun x w₂ => .ok (.tuple #[x, tmps.getD u undef, tmps.getD v undef]) w₂ := by
  simp only [results, h]
  simp [Sem.run_bind, Result.andThen]
theorem res_pg3 {fn : Func} {p u u' : Tmp} (hr : fn.results = #[.cell p 27, .tmp u, .tmp u']) {tmps : Array Value} {W : World} {g : Nat} {x y v v' : Value} (hp : tmps.getD p undef = .pointer (some ⟨g, 0, none⟩)) (hv : tmps.getD u undef = v) (hv' : tmps.getD u' undef = v') (hg : W.heap[g]? = some (.cells #[x, y] 27 (0, 0))) : (results fn tmps).run Tryz.prog W = .ok (.tuple #[.agg #[x, y], v, v']) W := by
  obtain ⟨d, hu, hd⟩ := Option.map_eq_some_iff.1 undPg1
  rw [← hv, ← hv', results_ctt9 hr]
  have hp' : tmps[p]?.getD undef = .pointer (some ⟨g, 0, none⟩) := by simpa using hp
  simp [hp', asAddr, run_loadVar_row W g 27 27 #[x, y] (0, 0) d hg hu (by cases d <;> first | rfl | cases hd) (by kernel_rfl), Result.andThen]
set_option maxHeartbeats 8000000 in
theorem ddecode_at {W : World} {v : Value} (b : List UInt8) (h : Bs W v b) (hl : b.length ≤ 281474976710656) : Calls Tryz.prog 9 #[v] W (DdOut W (decF b)) := by
  obtain ⟨ao, c, rfl, hc1, hc2, hsh⟩ := slice_from h
  obtain ⟨w0, hw0⟩ : ∃ X, X = W.alloc (.cells #[.slice none 0 0, .slice none 0 0] 27) := ⟨_, rfl⟩
  obtain ⟨w1, hw1⟩ : ∃ X, X = w0.alloc (.cells #[.slice ao b.length c, .int .i64 0, .bool false, .int .i64 0] 80) := ⟨_, rfl⟩
  obtain ⟨w2, hw2⟩ : ∃ X, X = w1.alloc (.cells #[.slice none 0 0, .slice none 0 0] 27) := ⟨_, rfl⟩
  have B0 : Below W.heap.size W w0 := hw0 ▸ below_alloc W _
  have B1 : Below w0.heap.size w0 w1 := hw1 ▸ below_alloc w0 _
  have B2 : Below w1.heap.size w1 w2 := hw2 ▸ below_alloc w1 _
  have n1 : w0.heap[W.heap.size]? = some (.cells #[.slice none 0 0, .slice none 0 0] 27 (0, 0)) := by rw [hw0]; exact heap_alloc_new W _
  have n2 : w1.heap[w0.heap.size]? = some (.cells #[.slice ao b.length c, .int .i64 0, .bool false, .int .i64 0] 80 (0, 0)) := by rw [hw1]; exact heap_alloc_new w0 _
  have n3 : w2.heap[w1.heap.size]? = some (.cells #[.slice none 0 0, .slice none 0 0] 27 (0, 0)) := by rw [hw2]; exact heap_alloc_new w1 _
  have e0 : w0.heap.size = W.heap.size + 1 := by rw [hw0]; exact Array.size_push ..
  have e1 : w1.heap.size = W.heap.size + 2 := by
    have : w1.heap.size = w0.heap.size + 1 := by rw [hw1]; exact Array.size_push ..
    omega
  obtain ⟨r2, hr2⟩ : ∃ r, r = W.heap.size := ⟨_, rfl⟩
  obtain ⟨k, hk⟩ : ∃ r, r = W.heap.size + 1 := ⟨_, rfl⟩
  obtain ⟨r6, hr6⟩ : ∃ r, r = W.heap.size + 2 := ⟨_, rfl⟩
  rw [e0, ← hk] at n2
  rw [← hr2] at n1
  rw [e1, ← hr6] at n3
  obtain ⟨BB, hBB⟩ : ∃ B, B = W.heap.size + 1 := ⟨_, rfl⟩
  have own_lt : ∀ j, (Value.slice ao b.length c).ownBlock = some j → 0 < b.length → j < W.heap.size := fun j e hb => by
    obtain ⟨ao', c', e', -, -, h3⟩ := h
    injection e' with e1 e2 e3
    subst e1 e3
    obtain ⟨g, o, rfl, hcell⟩ := h3 0 hb
    have : g = j := by simpa [Value.ownBlock] using e
    subst this
    exact World.block_lt_of_cell? W _ hcell
  have h01 := h.below (below_on B0 B1) (Nat.le_refl _)
  have R1 : Rdd w1 BB k b rs0 := ⟨by omega, Nat.zero_le _, Nat.le_refl _, hl, .slice ao b.length c, n2, h01, fun j hp e => by have := own_lt j e hp; omega⟩
  have L1 : Hid (Lpd W w2 BB k b rs0 r2 r6 (.slice none 0 0) (.slice none 0 0)) := ⟨(B2.block r2 (by have := lt_of_block n1; have := B1.size; omega)).trans ((B1.block r2 (lt_of_block n1)).trans n1), n3, R1.later B2, Mv.of_below (below_on (below_on B0 B1) B2) _, by omega, by omega, by omega⟩
  have J1 : Hid (Calls Tryz.prog 27 #[.pointer (some ⟨k, 0, none⟩), .int .i64 0, .int .i64 16] w2 fun e w' => e = .returned (.int .i64 (dnmV b 0 16 rs0 : Int)) ∧ Rdd w' BB k b (pgS1 b rs0) ∧ Mv w2 w' (fun j => j = k)) := dnumber_at L1.out.2.2.1 0 16 (by omega) (by omega)
  have K2 : Hid (∀ w, Rdd w BB k b (pgS2 b rs0) → Calls Tryz.prog 27 #[.pointer (some ⟨k, 0, none⟩), .int .i64 0, .int .i64 16] w fun e w' => e = .returned (.int .i64 (dnmV b 0 16 (pgS2 b rs0) : Int)) ∧ Rdd w' BB k b (pgS3 b rs0) ∧ Mv w w' (fun j => j = k)) := fun w hw => dnumber_at hw 0 16 (by omega) (by omega)
  have hn1 : dnmV b 0 16 rs0 ≤ 16 := dnmV_le (by omega)
  have hn2 : dnmV b 0 16 (pgS2 b rs0) ≤ 16 := dnmV_le (by omega)
  have ES2 : Hid (pgS2 b rs0 = sysG b (dnmV b 0 16 rs0) (pgS1 b rs0)) := (pgS2_doc b rs0).symm
  have HX : Hid (pgR b rs0 = rtsG b (dnmV b 0 16 (pgS2 b rs0)) (pgS3 b rs0)) := (pgR_doc b rs0).symm
  have HV : Hid ((pgR b rs0).bad = false → (pgS2 b rs0).bad = false ∧ pgV b rs0 = ⟨sysL b (dnmV b 0 16 rs0) (pgS1 b rs0), rtsL b (dnmV b 0 16 (pgS2 b rs0)) (pgS3 b rs0)⟩) := fun hb => by
    obtain ⟨g1, g2, g3, g4, g5⟩ := pg_good hb
    rw [g4, g5]
    exact ⟨g2, rfl⟩
  obtain ⟨R, hR⟩ : ∃ R, R = decF b := ⟨_, rfl⟩
  rw [← hR]
  have HR : Hid (R = if (pgR b rs0).bad || decide ((pgR b rs0).at' < b.length) then .inl (pgR b rs0).at' else .inr (pgV b rs0)) := hR
  generalize dnmV b 0 16 rs0 = m1 at *
  generalize pgS1 b rs0 = s1 at *
  generalize dnmV b 0 16 (pgS2 b rs0) = m2 at *
  generalize pgS3 b rs0 = s3 at *
  generalize pgS2 b rs0 = s2 at *
  generalize pgR b rs0 = x at *
  generalize pgV b rs0 = v at *
  have h26 : r2 < r6 := by omega
  have hk2 : r2 < k := by omega
  have hk6 : k < r6 := by omega
  have hW2 : W.heap.size ≤ r2 := by omega
  clear hR n1 n2 n3 B0 B1 B2 e0 e1 h h01 R1 own_lt hBB
  go_enter Tryz.func9, Tryz.ntmps9
  go_upto_region 3 with fail
  rw [← hw0, ← hw1, ← hw2, ← hr6, ← hk, ← hr2]
  clear hw0 hw1 hw2 hk hr2 hr6
  go_wp2_with fail
  refine J1.out.mono ?_
  rintro e w3 ⟨rfl, hr, hm⟩
  have L2 := hide (L1.out.call hr hm)
  clear hr hm J1 L1
  go_wp2_with fail
  go_loopw [8] (fun va wr => ∃ (j : Nat) (st : Rs) (ls : List (Sy × Sv)) (vs : Value), va = .int .i64 (j : Int) ∧ j ≤ m1 ∧ Hid (ls.length = j) ∧ Hid (s2 = sysG b (m1 - j) st) ∧ Hid (s2.bad = false → sysL b m1 s1 = ls.map Prod.fst ++ sysL b (m1 - j) st) ∧ Hid (wr.ownsRow (r6 + 1) 47 8 vs ls.length (sysC ls)) ∧ Hid (SysOwn (r6 + 1) wr ls) ∧ Hid (Lpd W wr BB k b st r2 r6 vs (.slice none 0 0))) (fun va _ => m1 - (intOf va).toNat)
  case atStart => exact ⟨0, s1, [], .slice none 0 0, rfl, by omega, rfl, ES2.out, fun _ => rfl, ⟨rfl, .inl ⟨rfl, rfl⟩⟩, ⟨fun p hp => absurd hp (by simp), List.Pairwise.nil, List.Pairwise.nil⟩, L2.out⟩
  case round =>
    obtain ⟨j, st, ls, vs, rfl, hj, hdn, hx, hv, hown, hso, hlc⟩ := hrel
    obtain ⟨ao9, c9, rfl⟩ := own_len hown.out
    obtain ⟨ao6, c6, ⟨b0, b1, b2, b3⟩, -, -, -⟩ := hlc.out.2.2.1.cells
    go_upto_region 5 with fail
    go_cut [27] (fun v wx => v = .bool (decide (j < m1) && !st.bad) ∧ wr = wx)
    case first =>
      by_cases hlt : j < m1
      · have hlt' : (j : Int) < (m1 : Int) := by omega
        go_wp2_with fail
        go_meet
        exact ⟨by simp [hlt], rfl⟩
      · have hlt' : ¬ (j : Int) < (m1 : Int) := by omega
        go_wp2_with fail
        go_meet
        exact ⟨by simp [hlt], rfl⟩
    obtain ⟨rfl, rfl⟩ := hcut
    clear b0 b1 b2 b3
    cases hgo : (decide (j < m1) && !st.bad) with
    | true =>
      have hlt : j < m1 := by simp at hgo; exact hgo.1
      have hbd : st.bad = false := by simp at hgo; exact hgo.2
      clear hgo
      obtain ⟨q, hq⟩ : ∃ q, m1 - j = q + 1 := ⟨m1 - j - 1, by omega⟩
      have hq' : m1 - (j + 1) = q := by omega
      have HX2 : Hid (s2 = sysG b (m1 - (j + 1)) (sysR b st)) := by unfold Hid; rw [hx.out, hq, hq']; rfl
      have GD : Hid (s2.bad = false → (sysR b st).bad = false) := fun hb => good_of (f := sysG b (m1 - (j + 1))) (fun _ e => sysG_bad _ e) (by rw [← HX2.out]; exact hb)
      have HV2 : Hid (s2.bad = false → sysL b m1 s1 = ls.map Prod.fst ++ [sysV b st] ++ sysL b (m1 - (j + 1)) (sysR b st)) := fun hb => by rw [hv.out hb, hq, hq', sysL]; simp
      have K1 : Hid (∀ w, Rdd w BB k b st → Calls Tryz.prog 28 #[.pointer (some ⟨k, 0, none⟩)] w fun e w' => ∃ v l, e = .returned v ∧ w'.ownsRow w.heap.size 3 1 v l.length (intC l) ∧ ((syS1 b st).bad = false → l = setV b st) ∧ Rdd w' BB k b (syS1 b st) ∧ Mv w w' (fun j => j = k)) := fun w hw => dset_at hw
      have K2 : Hid (∀ w, Rdd w BB k b (syS1 b st) → Calls Tryz.prog 28 #[.pointer (some ⟨k, 0, none⟩)] w fun e w' => ∃ v l, e = .returned v ∧ w'.ownsRow w.heap.size 3 1 v l.length (intC l) ∧ ((syS2 b st).bad = false → l = setV b (syS1 b st)) ∧ Rdd w' BB k b (syS2 b st) ∧ Mv w w' (fun j => j = k)) := fun w hw => dset_at hw
      have K3 : Hid (∀ w, Rdd w BB k b (syS2 b st) → Calls Tryz.prog 28 #[.pointer (some ⟨k, 0, none⟩)] w fun e w' => ∃ v l, e = .returned v ∧ w'.ownsRow w.heap.size 3 1 v l.length (intC l) ∧ ((syS3 b st).bad = false → l = setV b (syS2 b st)) ∧ Rdd w' BB k b (syS3 b st) ∧ Mv w w' (fun j => j = k)) := fun w hw => dset_at hw
      have K4 : Hid (∀ w, Rdd w BB k b (syS3 b st) → Calls Tryz.prog 28 #[.pointer (some ⟨k, 0, none⟩)] w fun e w' => ∃ v l, e = .returned v ∧ w'.ownsRow w.heap.size 3 1 v l.length (intC l) ∧ ((syS4 b st).bad = false → l = setV b (syS3 b st)) ∧ Rdd w' BB k b (syS4 b st) ∧ Mv w w' (fun j => j = k)) := fun w hw => dset_at hw
      have K5 : Hid (∀ w, Rdd w BB k b (syS4 b st) → Calls Tryz.prog 29 #[.pointer (some ⟨k, 0, none⟩)] w fun e w' => ∃ r vc, e = .returned (rtV r vc) ∧ w'.ownsRow w.heap.size 56 2 vc r.code.length (insC r.code) ∧ ((sysR b st).bad = false → r = rtnV b (syS4 b st)) ∧ Rdd w' BB k b (sysR b st) ∧ Mv w w' (fun j => j = k)) := fun w hw => drtn_at hw
      have SV : Hid (∀ l1 l2 l3 l4 r, ((syS1 b st).bad = false → l1 = setV b st) → ((syS2 b st).bad = false → l2 = setV b (syS1 b st)) → ((syS3 b st).bad = false → l3 = setV b (syS2 b st)) → ((syS4 b st).bad = false → l4 = setV b (syS3 b st)) → ((sysR b st).bad = false → r = rtnV b (syS4 b st)) → (sysR b st).bad = false → (⟨l1, l2, l3, l4, r⟩ : Sy) = sysV b st) := fun l1 l2 l3 l4 r h1 h2 h3 h4 h5 h6 => sysV_of h1 h2 h3 h4 h5 h6
      generalize setV b st = y1 at *
      generalize setV b (syS1 b st) = y2 at *
      generalize setV b (syS2 b st) = y3 at *
      generalize setV b (syS3 b st) = y4 at *
      generalize rtnV b (syS4 b st) = yr at *
      generalize sysV b st = sv at *
      generalize sysR b st = st5 at *
      generalize syS4 b st = st4 at *
      generalize syS3 b st = st3 at *
      generalize syS2 b st = st2 at *
      generalize syS1 b st = st1 at *
      obtain ⟨wA, hwA⟩ : ∃ X, X = wr.alloc (.cells #[.slice none 0 0, .slice none 0 0, .slice none 0 0, .slice none 0 0, .string ⟨#[]⟩, .int .i64 0, .int .i64 0, .slice none 0 0] 47) := ⟨_, rfl⟩
      have BA : Below wr.heap.size wr wA := hwA ▸ below_alloc wr _
      obtain ⟨r9, hr9⟩ : ∃ r, r = wr.heap.size := ⟨_, rfl⟩
      have nA : wA.heap[r9]? = some (.cells #[.slice none 0 0, .slice none 0 0, .slice none 0 0, .slice none 0 0, .string ⟨#[]⟩, .int .i64 0, .int .i64 0, .slice none 0 0] 47 (0, 0)) := by rw [hwA, hr9]; exact heap_alloc_new wr _
      have h69 : r6 < r9 := by rw [hr9]; exact lt_of_block hlc.out.2.1
      have L3 : Hid (Lsd W wA BB k b st r2 r6 (.slice ao9 ls.length c9) (.slice none 0 0) r9 (.slice none 0 0) (.slice none 0 0) (.slice none 0 0) (.slice none 0 0) (.string ⟨#[]⟩) (.int .i64 0) (.int .i64 0) (.slice none 0 0)) := ⟨hlc.out.later BA, nA, h69⟩
      have M3 : Hid (Mv wr wA (fun j => j = k)) := Mv.of_below BA _
      have h9A := lt_of_block nA
      have ER9 := hide hr9
      clear hx hv hq hq' hbd BA nA
      go_upto_region 8 with fail
      rw [← hwA, ← hr9]
      clear hwA hr9
      go_wp2_with fail
      refine (K1.out _ L3.out.1.2.2.1).mono ?_
      rintro e w11 ⟨v1, l1, rfl, o1, q1, hr, hm⟩
      obtain ⟨b1, d1, rfl⟩ := own_len o1
      have Q1 := hide q1
      have L4 := L3.out.call hr hm
      have M4 := M3.out.trans hm (fun _ _ e => e)
      obtain ⟨⟨a0, a1, a2, a3, a4, a5, a6, a7⟩, z⟩ := L4.row
      have LN1 := hide (L4.set (i := 0) (v := .slice b1 l1.length d1) rfl)
      have MN1 := hide (M4.trans ((Mv.refl w11 (fun j => j = r9)).set (g := r9) rfl 0 (.slice b1 l1.length d1)) (fun j hj e => by have := ER9.out; omega))
      have hs1 := hm.size
      have O1n := hide o1
      have O1 := O1n
      clear O1n hr hm L4 M4 o1 q1
      go_wp2_with fail
      refine (K2.out _ LN1.out.1.2.2.1).mono ?_
      rintro e w12 ⟨v2, l2, rfl, o2, q2, hr, hm⟩
      obtain ⟨b2, d2, rfl⟩ := own_len o2
      have Q2 := hide q2
      clear a0 a1 a2 a3 a4 a5 a6 a7 z
      have L4 := LN1.out.call hr hm
      have M4 := MN1.out.trans hm (fun _ _ e => e)
      obtain ⟨⟨a0, a1, a2, a3, a4, a5, a6, a7⟩, z⟩ := L4.row
      have LN2 := hide (L4.set (i := 1) (v := .slice b2 l2.length d2) rfl)
      have MN2 := hide (M4.trans ((Mv.refl w12 (fun j => j = r9)).set (g := r9) rfl 1 (.slice b2 l2.length d2)) (fun j hj e => by have := ER9.out; omega))
      have hs2 := hm.size
      rw [show (w11.setCell ⟨r9, 0, none⟩ (.slice b1 l1.length d1)).heap.size = w11.heap.size by simp] at o2 hs2
      have P1 := hide (own_by O1.out (by omega) (by omega) hm)
      have O2n := hide o2
      have A12 := hide (ap_new O1.out O2n.out (Nat.le_refl _))
      clear O1
      have O1 := P1
      clear P1
      have O2 := O2n
      clear O2n hr hm L4 M4 o2 q2
      go_wp2_with fail
      refine (K3.out _ LN2.out.1.2.2.1).mono ?_
      rintro e w13 ⟨v3, l3, rfl, o3, q3, hr, hm⟩
      obtain ⟨b3, d3, rfl⟩ := own_len o3
      have Q3 := hide q3
      clear a0 a1 a2 a3 a4 a5 a6 a7 z
      have L4 := LN2.out.call hr hm
      have M4 := MN2.out.trans hm (fun _ _ e => e)
      obtain ⟨⟨a0, a1, a2, a3, a4, a5, a6, a7⟩, z⟩ := L4.row
      have LN3 := hide (L4.set (i := 2) (v := .slice b3 l3.length d3) rfl)
      have MN3 := hide (M4.trans ((Mv.refl w13 (fun j => j = r9)).set (g := r9) rfl 2 (.slice b3 l3.length d3)) (fun j hj e => by have := ER9.out; omega))
      have hs3 := hm.size
      rw [show (w12.setCell ⟨r9, 1, none⟩ (.slice b2 l2.length d2)).heap.size = w12.heap.size by simp] at o3 hs3
      have P1 := hide (own_by O1.out (by omega) (by omega) hm)
      have P2 := hide (own_by O2.out (by omega) (by omega) hm)
      have O3n := hide o3
      have A13 := hide (ap_new O1.out O3n.out (Nat.le_refl _))
      clear O1
      have O1 := P1
      clear P1
      have A23 := hide (ap_new O2.out O3n.out (Nat.le_refl _))
      clear O2
      have O2 := P2
      clear P2
      have O3 := O3n
      clear O3n hr hm L4 M4 o3 q3
      go_wp2_with fail
      refine (K4.out _ LN3.out.1.2.2.1).mono ?_
      rintro e w14 ⟨v4, l4, rfl, o4, q4, hr, hm⟩
      obtain ⟨b4, d4, rfl⟩ := own_len o4
      have Q4 := hide q4
      clear a0 a1 a2 a3 a4 a5 a6 a7 z
      have L4 := LN3.out.call hr hm
      have M4 := MN3.out.trans hm (fun _ _ e => e)
      obtain ⟨⟨a0, a1, a2, a3, a4, a5, a6, a7⟩, z⟩ := L4.row
      have LN4 := hide (L4.set (i := 3) (v := .slice b4 l4.length d4) rfl)
      have MN4 := hide (M4.trans ((Mv.refl w14 (fun j => j = r9)).set (g := r9) rfl 3 (.slice b4 l4.length d4)) (fun j hj e => by have := ER9.out; omega))
      have hs4 := hm.size
      rw [show (w13.setCell ⟨r9, 2, none⟩ (.slice b3 l3.length d3)).heap.size = w13.heap.size by simp] at o4 hs4
      have P1 := hide (own_by O1.out (by omega) (by omega) hm)
      have P2 := hide (own_by O2.out (by omega) (by omega) hm)
      have P3 := hide (own_by O3.out (by omega) (by omega) hm)
      have O4n := hide o4
      have A14 := hide (ap_new O1.out O4n.out (Nat.le_refl _))
      clear O1
      have O1 := P1
      clear P1
      have A24 := hide (ap_new O2.out O4n.out (Nat.le_refl _))
      clear O2
      have O2 := P2
      clear P2
      have A34 := hide (ap_new O3.out O4n.out (Nat.le_refl _))
      clear O3
      have O3 := P3
      clear P3
      have O4 := O4n
      clear O4n hr hm L4 M4 o4 q4
      go_wp2_with fail
      refine (K5.out _ LN4.out.1.2.2.1).mono ?_
      rintro e w15 ⟨rt, vc, rfl, o5, q5, hr, hm⟩
      obtain ⟨b5, d5, rfl⟩ := own_len o5
      have Q5 := hide q5
      clear a0 a1 a2 a3 a4 a5 a6 a7 z
      rw [show (w14.setCell ⟨r9, 3, none⟩ (.slice b4 l4.length d4)).heap.size = w14.heap.size by simp] at o5
      have L4 := LN4.out.call hr hm
      have M4 := MN4.out.trans hm (fun _ _ e => e)
      obtain ⟨⟨a0, a1, a2, a3, a4, a5, a6, a7⟩, z⟩ := L4.row
      obtain ⟨nm, pa, lo, cd⟩ := rt
      dsimp only at o5
      unfold rtV
      dsimp only
      have L5 := L4.set (i := 4) (v := .string nm) rfl
      have L6 := L5.set (i := 5) (v := .int .i64 pa) rfl
      have L7 := L6.set (i := 6) (v := .int .i64 lo) rfl
      have L8 := L7.set (i := 7) (v := .slice b5 cd.length d5) rfl
      have P1 := hide (own_by O1.out (by omega) (by omega) hm)
      have P2 := hide (own_by O2.out (by omega) (by omega) hm)
      have P3 := hide (own_by O3.out (by omega) (by omega) hm)
      have P4 := hide (own_by O4.out (by omega) (by omega) hm)
      have P5 := hide o5
      obtain ⟨w7, hw7⟩ : ∃ X, X = (((w15.setCell ⟨r9, 4, none⟩ (.string nm)).setCell ⟨r9, 5, none⟩ (.int .i64 pa)).setCell ⟨r9, 6, none⟩ (.int .i64 lo)).setCell ⟨r9, 7, none⟩ (.slice b5 cd.length d5) := ⟨_, rfl⟩
      have m7 : Mv w15 w7 (fun j => j = r9) := by
        rw [hw7]
        exact ((((Mv.refl w15 (fun j => j = r9)).set (g := r9) rfl _ _).set (g := r9) rfl _ _).set (g := r9) rfl _ _).set (g := r9) rfl _ _
      have M7 := hide (M4.trans m7 (fun j hj e => by have := ER9.out; omega))
      have L9 : Hid (Lsd W w7 BB k b st5 r2 r6 (.slice ao9 ls.length c9) (.slice none 0 0) r9 (.slice b1 l1.length d1) (.slice b2 l2.length d2) (.slice b3 l3.length d3) (.slice b4 l4.length d4) (.string nm) (.int .i64 pa) (.int .i64 lo) (.slice b5 cd.length d5)) := by rw [hw7]; exact L8
      have SO : Hid (SyOwn wr.heap.size w7 ⟨l1, l2, l3, l4, ⟨nm, pa, lo, cd⟩⟩ (.slice b1 l1.length d1) (.slice b2 l2.length d2) (.slice b3 l3.length d3) (.slice b4 l4.length d4) (.slice b5 cd.length d5)) := by
        have hW : wr.heap.size ≤ wA.heap.size := M3.out.size
        have go : ∀ {N e s n : Nat} {v : Value} {xs : List Value}, w15.ownsRow N e s v n xs → r9 < N → wr.heap.size ≤ N → w7.ownsRow wr.heap.size e s v n xs := fun h1 h2 h3 => own_lower (m7.own h1 (fun g e1 e2 => by have := (h1.lt g e1).1; omega)) h3
        exact ⟨⟨go P1.out (by omega) (by omega), go P2.out (by omega) (by omega), go P3.out (by omega) (by omega), go P4.out (by omega) (by omega), go P5.out (by omega) (by omega)⟩, A12.out, A13.out, A14.out, A23.out, A24.out, A34.out⟩
      have SS : Hid (st5.bad = false → (⟨l1, l2, l3, l4, ⟨nm, pa, lo, cd⟩⟩ : Sy) = sv) := fun hb => SV.out l1 l2 l3 l4 _ Q1.out Q2.out Q3.out Q4.out Q5.out hb
      have T7 := hide (M7.out.own hown.out (fun g e1 e2 => by have := (hown.out.lt g e1).1; omega))
      have S7 := hide (hso.out.mv M7.out (fun jj h1 _ p hp vv hvv hb e => by omega))
      have N7 : Hid (SysOwn (r6 + 1) w7 (ls ++ [(⟨l1, l2, l3, l4, ⟨nm, pa, lo, cd⟩⟩, ⟨.slice b1 l1.length d1, .slice b2 l2.length d2, .slice b3 l3.length d3, .slice b4 l4.length d4, .slice b5 cd.length d5⟩)]) ) := hso.out.snoc S7.out SO.out (by have := ER9.out; omega)
      clear hr hm L4 M4 o5 q5 L5 L6 L7 L8 O1 O2 O3 O4 P1 P2 P3 P4 P5 Q1 Q2 Q3 Q4 Q5 K1 K2 K3 K4 K5 SV LN1 LN2 LN3 LN4 MN1 MN2 MN3 MN4 A12 A13 A14 A23 A24 A34
      go_upto_region 13 with fail
      rw [← hw7]
      clear hw7 a0 a1 a2 a3 a4 a5 a6 a7 z m7
      obtain ⟨⟨a0, a1, a2, a3, a4, a5, a6, a7⟩, -⟩ := L9.out.row
      obtain ⟨y0, -⟩ := row2 L9.out.1.2.1
      obtain ⟨ic, hi, hz0, hz1, hz2⟩ := info_parts infoS
      have hdl : ls.length ≤ 16 := by have := hdn.out; omega
      have bg := lt_of_block L9.out.1.2.1
      have t7 := T7.out
      go_wp2_with (at_builtin; refine wpList_append_own _ rfl _ _ 24 rfl (r6 + 1) 47 ic (.agg #[.slice none 0 0, .slice none 0 0, .slice none 0 0, .slice none 0 0, .string ByteArray.empty, .int .i64 0, .int .i64 0, .slice none 0 0]) 8 152 Tryz.underlying24 hi hz0 hz1 hz2 rfl (by decide) _ _ _ rfl (t7.alloc _) ⟨w7.heap.size, 0, none⟩ 1 1 [.slice b1 l1.length d1, .slice b2 l2.length d2, .slice b3 l3.length d3, .slice b4 l4.length d4, .string nm, .int .i64 pa, .int .i64 lo, .slice b5 cd.length d5] rfl rfl ?c1 ?c2 ?c3 ?c4 ?c5 ?_)
      case c1 =>
        intro jj u hj
        match jj, hj with
        | 0, hj => simp at hj; subst hj; simp [Addr.add]
        | 1, hj => simp at hj; subst hj; simp [Addr.add]
        | 2, hj => simp at hj; subst hj; simp [Addr.add]
        | 3, hj => simp at hj; subst hj; simp [Addr.add]
        | 4, hj => simp at hj; subst hj; simp [Addr.add]
        | 5, hj => simp at hj; subst hj; simp [Addr.add]
        | 6, hj => simp at hj; subst hj; simp [Addr.add]
        | 7, hj => simp at hj; subst hj; simp [Addr.add]
      case c2 => intro u hu; simp at hu; rcases hu with rfl | rfl | rfl | rfl | rfl | rfl | rfl | rfl <;> rfl
      case c3 => unfold maxLen; omega
      case c4 => omega
      case c5 => simp; omega
      intro v' w8 ho8 hg8 _
      have m8 : Mv w7 w8 (fun j => (Value.slice ao9 ls.length c9).ownBlock = some j) := ((Mv.refl w7 (fun j => (Value.slice ao9 ls.length c9).ownBlock = some j)).alloc _).grown hg8 (fun g _ e => e)
      have L10 := L9.out.1.grow m8 (fun j e => (T7.out.lt j e).1)
      have N8 := N7.out.mv m8 (fun jj h1 h2 p hp vv hvv hb eS => by
        obtain ⟨⟨t1, t2, t3, t4, t5⟩, -⟩ := N7.out.1 p hp
        have bt := fun {e s n : Nat} {v : Value} {xs : List Value} (h1 : w7.ownsRow (r6 + 1) e s v n xs) (h2 : 47 ≠ e) => own_types T7.out h1 h2 jj
        simp only [List.mem_cons, List.not_mem_nil, or_false] at hvv
        rcases hvv with rfl | rfl | rfl | rfl | rfl
        · exact bt t1 (by decide) eS hb
        · exact bt t2 (by decide) eS hb
        · exact bt t3 (by decide) eS hb
        · exact bt t4 (by decide) eS hb
        · exact bt t5 (by decide) eS hb)
      obtain ⟨ao', c', rfl⟩ := own_len ho8
      obtain ⟨g0, -⟩ := row2 L10.2.1
      have zf : ∀ q, w8.frozen? ⟨r6, q, none⟩ = false := fun q => frozen_of_row w8 r6 q _ 27 L10.2.1
      obtain ⟨ne, hne⟩ : ∃ x : Sy × Sv, x = (⟨l1, l2, l3, l4, ⟨nm, pa, lo, cd⟩⟩, ⟨.slice b1 l1.length d1, .slice b2 l2.length d2, .slice b3 l3.length d3, .slice b4 l4.length d4, .slice b5 cd.length d5⟩) := ⟨_, rfl⟩
      rw [← hne] at N8
      have ef : st5.bad = false → ne.1 = sv := fun hb => by rw [hne]; exact SS.out hb
      have esv : [.slice b1 l1.length d1, .slice b2 l2.length d2, .slice b3 l3.length d3, .slice b4 l4.length d4, .string nm, .int .i64 pa, .int .i64 lo, .slice b5 cd.length d5] = svC ne := by rw [hne]; rfl
      rw [esv] at ho8
      have el : (ls ++ [ne]).length = ls.length + 1 := by simp
      obtain ⟨w9, hw9⟩ : ∃ X, X = w8.setCell ⟨r6, 0, none⟩ (.slice ao' (ls.length + 1) c') := ⟨_, rfl⟩
      have m9 : Mv w8 w9 (fun j => j = r6) := by rw [hw9]; exact (Mv.refl w8 (fun j => j = r6)).set (g := r6) rfl 0 _
      have L11 : Hid (Lpd W w9 BB k b st5 r2 r6 (.slice ao' (ls.length + 1) c') (.slice none 0 0)) := by unfold Hid; rw [hw9]; exact L10.set rfl
      have O11 : Hid (w9.ownsRow (r6 + 1) 47 8 (.slice ao' (ls.length + 1) c') (ls ++ [ne]).length (sysC (ls ++ [ne]))) := by
        unfold Hid
        rw [el, sysC_snoc]
        exact m9.own ho8 (fun g e1 e2 => by have := (ho8.lt g e1).1; omega)
      have N11 := hide (N8.mv m9 (fun jj h1 _ _ _ _ _ _ e => by omega))
      have HD2 : Hid ((ls ++ [ne]).length = j + 1) := by unfold Hid; rw [el, hdn.out]
      have HV3 : Hid (s2.bad = false → sysL b m1 s1 = (ls ++ [ne]).map Prod.fst ++ sysL b (m1 - (j + 1)) st5) := fun hb => by rw [HV2.out hb, List.map_append, List.map_singleton, ef (GD.out hb)]
      clear ho8 hg8 m8 m9 L10 N8 N7 S7 T7 t7 SO SS M7 L9 el ef esv hne HV2 GD a0 a1 a2 a3 a4 a5 a6 a7 y0 ic hi hz0 hz1 hz2
      go_wp2_with fail
      rw [← hw9]
      clear hw9 g0 zf
      refine ⟨⟨j + 1, st5, ls ++ [ne], _, by push_cast; rfl, by omega, HD2, HX2, HV3, O11, N11, L11⟩, ?_⟩
      simp only [intOf]
      omega
    | false =>
      have hend : st.bad = true ∨ j = m1 := by
        rcases Nat.lt_or_ge j m1 with h | h
        · left
          cases hb : st.bad with
          | true => rfl
          | false => rw [hb] at hgo; simp [h] at hgo
        · right
          omega
      have hx2 : s2 = st := by
        rcases hend with h | h
        · rw [hx.out]; exact sysG_bad _ h
        · rw [hx.out, h, Nat.sub_self]; rfl
      have hv2 : s2.bad = false → sysL b m1 s1 = ls.map Prod.fst := fun hb => by
        rcases hend with h | h
        · rw [← hx2, hb] at h; cases h
        · rw [hv.out hb, h, Nat.sub_self, sysL, List.append_nil]
      have HVS := hide hv2
      subst hx2
      have J3 := hide (K2.out wr hlc.out.2.2.1)
      have hszr := lt_of_block hlc.out.2.1
      obtain ⟨wq, hwq⟩ : ∃ X, X = wr := ⟨_, rfl⟩
      subst hwq
      clear hx hv hv2 hdn hend hgo K2 ES2 L2
      go_wp2_with fail
      refine J3.out.mono ?_
      rintro e w4 ⟨rfl, hr, hm⟩
      have L3 := hide (hlc.out.call hr hm)
      have O3 := hide (hm.own hown.out (fun g e1 e2 => by have := (hown.out.lt g e1).1; omega))
      have S3 := hide (hso.out.mv hm (fun jj h1 _ _ _ _ _ _ e => by omega))
      clear hr hm J3
      go_wp2_with fail
      go_loopw [11] (fun va wr => ∃ (i : Nat) (st : Rs) (lf : List (Rt × Value)) (vf : Value), va = .int .i64 (i : Int) ∧ i ≤ m2 ∧ Hid (lf.length = i) ∧ Hid (x = rtsG b (m2 - i) st) ∧ Hid (x.bad = false → rtsL b m2 s3 = lf.map Prod.fst ++ rtsL b (m2 - i) st) ∧ Hid (wr.ownsRow (r6 + 1) 47 8 (.slice ao9 ls.length c9) ls.length (sysC ls)) ∧ Hid (wr.ownsRow (r6 + 1) 45 4 vf lf.length (rtsC lf)) ∧ Hid (SysOwn (r6 + 1) wr ls) ∧ Hid (RtsOwn (r6 + 1) wr lf) ∧ Hid (∀ p ∈ ls, ∀ q ∈ lf, Ap p.2.vc q.2) ∧ Hid (Lpd W wr BB k b st r2 r6 (.slice ao9 ls.length c9) vf)) (fun va _ => m2 - (intOf va).toNat)
      case atStart => exact ⟨0, s3, [], .slice none 0 0, rfl, by omega, rfl, HX.out, fun _ => rfl, O3.out, ⟨rfl, .inl ⟨rfl, rfl⟩⟩, S3.out, ⟨fun p hp => absurd hp (by simp), List.Pairwise.nil⟩, fun p _ q hq => absurd hq (by simp), L3.out⟩
      case round =>
        obtain ⟨i, st, lf, vf, rfl, hi', hdn, hx, hv, howS, howF, hsS, hsF, hcr, hlp⟩ := hrel
        obtain ⟨af, cf, rfl⟩ := own_len howF.out
        have hcap2 := own_cap howF.out
        obtain ⟨ao6, c6, ⟨b0, b1, b2, b3⟩, -, -, -⟩ := hlp.out.2.2.1.cells
        go_upto_region 16 with fail
        go_cut [63] (fun v wx => v = .bool (decide (i < m2) && !st.bad) ∧ wr = wx)
        case first =>
          by_cases hlt : i < m2
          · have hlt' : (i : Int) < (m2 : Int) := by omega
            go_wp2_with fail
            go_meet
            exact ⟨by simp [hlt], rfl⟩
          · have hlt' : ¬ (i : Int) < (m2 : Int) := by omega
            go_wp2_with fail
            go_meet
            exact ⟨by simp [hlt], rfl⟩
        obtain ⟨rfl, rfl⟩ := hcut
        clear b0 b1 b2 b3
        cases hgo : (decide (i < m2) && !st.bad) with
        | true =>
          have hlt2 : i < m2 := by simp at hgo; exact hgo.1
          clear hgo
          have hL0 := hlp.out.later (below_drew wr)
          have hO0 := own_later howF.out (below_drew wr)
          have hOS := own_later howS.out (below_drew wr)
          have hS0 : SysOwn (r6 + 1) wr.drew ls := hsS.out.mv (Mv.of_below (below_drew wr) (fun _ => False)) (fun _ _ _ _ _ _ _ _ e => e)
          have hF0 : RtsOwn (r6 + 1) wr.drew lf := hsF.out.mv (Mv.of_below (below_drew wr) (fun _ => False)) (fun _ _ _ _ _ e => e)
          have J2 : Hid (Calls Tryz.prog 29 #[.pointer (some ⟨k, 0, none⟩)] wr.drew fun e w' => ∃ (r : Rt) (vc : Value), e = .returned (.agg #[.string r.name, .int .i64 r.pa, .int .i64 r.lo, vc]) ∧ w'.ownsRow wr.heap.size 56 2 vc r.code.length (insC r.code) ∧ ((rtnR b st).bad = false → r = rtnV b st) ∧ Rdd w' BB k b (rtnR b st) ∧ Mv wr.drew w' (fun j => j = k)) := drtn_at hL0.2.2.1
          obtain ⟨q, hq⟩ : ∃ q, m2 - i = q + 1 := ⟨m2 - i - 1, by omega⟩
          have hq' : m2 - (i + 1) = q := by omega
          have HX2 : Hid (x = rtsG b (m2 - (i + 1)) (rtnR b st)) := by unfold Hid; rw [hx.out, hq, hq']; rfl
          have GD : Hid (x.bad = false → (rtnR b st).bad = false) := fun hb => good_of (f := rtsG b (m2 - (i + 1))) (fun _ e => rtsG_bad _ e) (by rw [← HX2.out]; exact hb)
          have HV2 : Hid (x.bad = false → rtsL b m2 s3 = lf.map Prod.fst ++ [rtnV b st] ++ rtsL b (m2 - (i + 1)) (rtnR b st)) := fun hb => by rw [hv.out hb, hq, hq', rtsL]; simp
          generalize rtnV b st = rw' at *
          generalize rtnR b st = st2 at *
          have a3 := (row2 hlp.out.2.1).2
          have hdl : lf.length ≤ 16 := by have := hdn.out; omega
          have hszr := lt_of_block hlp.out.2.1
          clear hx hv hq hq'
          obtain ⟨ic, hi, hz0, hz1, hz2⟩ := info_parts infoR
          go_upto_region 18 with fail
          refine wp_region_late (J := fun i => i != 7) (S := (fun Wq => Wq.cell? ⟨r6, 1, none⟩ = some (.slice af lf.length cf))) (by kernel_rfl) (a3) (fun hHeld => ?_)
          refine' wpAnyJ_takeW (i := 0) (oi := { dst := some 66, op := Go.Op.fieldAddr 27 (Go.Operand.tmp 6) 1, type := 0, pos := "code.go:259", after := #[], guard := none }) (v := _) rfl (by kernel_rfl) (by kernel_rfl) (by kernel_rfl) (fun _ _ _ h => h) (Or.inl ⟨by rfl, ?hyj11⟩) ?rej11
          case hyj11 => (intro W hSw; (try dsimp only at hSw); go_simp; try with_reducible rfl)
          try simp only [Act.put, List.setIfInBounds_toArray, List.set_cons_zero, List.set_cons_succ]
          refine' wpAnyJ_take (i := 1) (oi := { dst := some 67, op := Go.Op.load 25 (Go.Operand.tmp 66), type := 25, pos := "code.go:259", after := #[{ on := 0, ground := Go.Ground.data }], guard := none }) (v := _) rfl (by kernel_rfl) (by kernel_rfl) (by kernel_rfl) (by kernel_rfl) (fun _ _ _ h => h) (Or.inl ⟨by rfl, ?hyj12⟩) (by assumption) ?rej12
          case hyj12 => (intro W hSw; (try dsimp only at hSw); go_simp; try with_reducible rfl)
          try simp only [Act.put, List.setIfInBounds_toArray, List.set_cons_zero, List.set_cons_succ]
          refine' wpAnyJ_takeW (i := 2) (oi := { dst := some 68, op := Go.Op.move (Go.Operand.tmp 5), type := 78, pos := "code.go:259", after := #[], guard := none }) (v := _) rfl (by kernel_rfl) (by kernel_rfl) (by kernel_rfl) (fun _ _ _ h => h) (Or.inl ⟨by rfl, ?hyj13⟩) ?rej13
          case hyj13 => (intro W hSw; (try dsimp only at hSw); go_simp; try with_reducible rfl)
          try simp only [Act.put, List.setIfInBounds_toArray, List.set_cons_zero, List.set_cons_succ]
          refine wpAnyJ_ready (rs := [3]) (by kernel_rfl) (by simp) ?_
          refine AllReadyJ.cons (o := { dst := some 69, op := Go.Op.call { callee := Go.Callee.value (Go.Operand.func 29), args := #[Go.Operand.tmp 68], argTypes := #[78] }, type := 45, pos := "code.go:259", after := #[{ on := 2, ground := Go.Ground.data }], guard := none }) rfl (fun K hK => ?_) AllReadyJ.nil
          clear hHeld
          go_simp
          go_at_call 29
          refine J2.out.mono ?_
          rintro e w8 ⟨rv, u5, rfl, so8, qv8, hr8, hm8⟩
          have L8 := hL0.call hr8 hm8
          have O8 := hm8.own hO0 (fun g e1 e2 => by have := (howF.out.lt g e1).1; omega)
          have Q8 := hm8.own hOS (fun g e1 e2 => by have := (howS.out.lt g e1).1; omega)
          have S8 : SysOwn (r6 + 1) w8 ls := hS0.mv hm8 (fun jj h1 _ p hp vv hvv hb e => by omega)
          have F8 : RtsOwn (r6 + 1) w8 lf := hF0.mv hm8 (fun p hp jj h1 hb e => by omega)
          have N8 : RtsOwn (r6 + 1) w8 (lf ++ [(rv, u5)]) := hF0.snoc F8 so8 (show r6 + 1 ≤ wr.heap.size by omega)
          have X8 : ∀ p ∈ ls, ∀ q ∈ lf ++ [(rv, u5)], Ap p.2.vc q.2 := fun p hp q hq => by
            rw [List.mem_append, List.mem_singleton] at hq
            rcases hq with hq | rfl
            · exact hcr.out p hp q hq
            · intro g e1 e2
              have t1 : g < wr.heap.size := ((hS0.1 p hp).1.2.2.2.2.lt g e1).2
              have t2 : wr.heap.size ≤ g := (so8.lt g e2).1
              omega
          have C8 := (row2 L8.2.1).2
          have QV := hide qv8
          clear qv8
          obtain ⟨q5, d5, rfl⟩ := own_len so8
          have hsz8 := lt_of_block L8.2.1
          obtain ⟨nb, hnb⟩ : ∃ X, X = Obj.cells #[.string rv.name, .int .i64 rv.pa, .int .i64 rv.lo, .slice q5 rv.code.length d5] 45 (0, 0) := ⟨_, rfl⟩
          have CB := (row2 (L8.later (below_alloc w8 nb)).2.1).2
          have CN : ∀ jj u, (rvC (rv, .slice q5 rv.code.length d5))[jj]? = some u → (w8.alloc nb).cell? ((⟨w8.heap.size, 0, none⟩ : Addr).add jj) = some u := by
            intro jj u hu
            rw [add_at, cell_of_row (w8.alloc nb) w8.heap.size jj #[.string rv.name, .int .i64 rv.pa, .int .i64 rv.lo, .slice q5 rv.code.length d5] 45 (0, 0) (by rw [hnb]; exact heap_alloc_new w8 _), ← hu, List.getElem?_toArray]
            rfl
          rw [hnb] at CB CN
          clear hnb
          refine hK.out _ _ (fun _ _ => C8) ?_
          clear hK K
          try simp only [Act.put, List.setIfInBounds_toArray, List.set_cons_zero, List.set_cons_succ]
          refine wpAnyJ_ready (rs := [4]) (by kernel_rfl) (by simp) ?_
          refine AllReadyJ.cons (o := { dst := some 70, op := Go.Op.buildSlice 25 1 #[(0, Go.Operand.tmp 69)], type := 25, pos := "code.go:259", after := #[{ on := 3, ground := Go.Ground.data }], guard := none }) rfl (fun K hK => ?_) AllReadyJ.nil
          go_simp
          refine hK.out _ _ (fun _ _ => CB) ?_
          clear hK K
          try simp only [Act.put, List.setIfInBounds_toArray, List.set_cons_zero, List.set_cons_succ]
          refine wpAnyJ_ready (rs := [5]) (by kernel_rfl) (by simp) ?_
          refine AllReadyJ.cons (o := { dst := some 71, op := Go.Op.call { callee := Go.Callee.builtin Go.Builtin.append, args := #[Go.Operand.tmp 67, Go.Operand.tmp 70], argTypes := #[25, 25] }, type := 25, pos := "code.go:259", after := #[{ on := 1, ground := Go.Ground.data }, { on := 4, ground := Go.Ground.data }, { on := 3, ground := Go.Ground.chain }], guard := none }) rfl (fun K hK => ?_) AllReadyJ.nil
          refine step_append_lies _ rfl (.tmp 67) (.tmp 70) 25 rfl (r6 + 1) 45 ic (.agg #[.string ByteArray.empty, .int .i64 0, .int .i64 0, .slice none 0 0]) 4 56 Tryz.underlying25 hi hz0 hz1 hz2 rfl (by decide) (.slice af lf.length cf) lf.length (rtsC lf) (by simp [Act.eval]) (O8.alloc _) ⟨w8.heap.size, 0, none⟩ 1 1 (rvC (rv, .slice q5 rv.code.length d5)) (by simp [Act.eval]) rfl CN (by intro u hu; simp [rvC] at hu; rcases hu with rfl | rfl | rfl | rfl <;> rfl) (by omega) (by unfold maxLen; omega) (by omega) (by simp; omega) _ rfl ?_
          intro g9 c19 w9 ho9 hg9 _ _
          have m9 : Mv w8 w9 (fun j => (Value.slice af lf.length cf).ownBlock = some j) := ((Mv.refl w8 (fun j => (Value.slice af lf.length cf).ownBlock = some j)).alloc _).grown hg9 (fun g _ e => e)
          have L9b := L8.grow m9 (fun j e => (O8.lt j e).1)
          have CA := (row2 L9b.2.1).2
          have ZA : ∀ q, w9.frozen? ⟨r6, q, none⟩ = false := fun q => frozen_of_row w9 r6 q _ 27 L9b.2.1
          have Q9 := m9.own Q8 (fun g e1 e2 => own_types O8 Q8 (by decide) g e2 e1)
          have S9 : SysOwn (r6 + 1) w9 ls := S8.mv m9 (fun jj h1 h2 p hp vv hvv hb eS => by
            obtain ⟨⟨t1, t2, t3, t4, t5⟩, -⟩ := S8.1 p hp
            have bt := fun {e s n : Nat} {v : Value} {xs : List Value} (h1 : w8.ownsRow (r6 + 1) e s v n xs) (h2 : 45 ≠ e) => own_types O8 h1 h2 jj
            simp only [List.mem_cons, List.not_mem_nil, or_false] at hvv
            rcases hvv with rfl | rfl | rfl | rfl | rfl
            · exact bt t1 (by decide) eS hb
            · exact bt t2 (by decide) eS hb
            · exact bt t3 (by decide) eS hb
            · exact bt t4 (by decide) eS hb
            · exact bt t5 (by decide) eS hb)
          have N9 : RtsOwn (r6 + 1) w9 (lf ++ [(rv, .slice q5 rv.code.length d5)]) := N8.mv m9 (fun p hp jj h1 hb eS => own_types O8 (N8.1 p hp) (by decide) jj eS hb)
          refine hK.out _ _ (fun _ _ => CA) ?_
          clear hK K
          try simp only [Act.put, List.setIfInBounds_toArray, List.set_cons_zero, List.set_cons_succ]
          refine' wpAnyJ_takeW (i := 6) (oi := { dst := some 72, op := Go.Op.fieldAddr 27 (Go.Operand.tmp 6) 1, type := 0, pos := "code.go:259", after := #[{ on := 0, ground := Go.Ground.phase }, { on := 1, ground := Go.Ground.phase }, { on := 2, ground := Go.Ground.phase }, { on := 3, ground := Go.Ground.phase }, { on := 4, ground := Go.Ground.phase }, { on := 5, ground := Go.Ground.phase }], guard := none }) (v := _) rfl (by kernel_rfl) (by kernel_rfl) (by kernel_rfl) (fun _ _ _ h => h) (Or.inl ⟨by rfl, ?hyj14⟩) ?rej14
          case hyj14 => (intro W hSw; (try dsimp only at hSw); go_simp; try with_reducible rfl)
          try simp only [Act.put, List.setIfInBounds_toArray, List.set_cons_zero, List.set_cons_succ]
          refine wpAnyJ_ready (rs := [7]) (by kernel_rfl) (by simp) ?_
          refine AllReadyJ.cons (o := { dst := none, op := Go.Op.store 25 (Go.Operand.tmp 72) (Go.Operand.tmp 71), type := 0, pos := "code.go:259", after := #[{ on := 6, ground := Go.Ground.data }, { on := 5, ground := Go.Ground.data }, { on := 5, ground := Go.Ground.chain }, { on := 0, ground := Go.Ground.phase }, { on := 1, ground := Go.Ground.phase }, { on := 2, ground := Go.Ground.phase }, { on := 3, ground := Go.Ground.phase }, { on := 4, ground := Go.Ground.phase }, { on := 5, ground := Go.Ground.phase }], guard := none }) rfl (fun K hK => ?_) AllReadyJ.nil
          go_simp
          refine hK.out _ _ (fun h => absurd h (by decide)) ?_
          clear hK K
          try simp only [Act.put, List.setIfInBounds_toArray, List.set_cons_zero, List.set_cons_succ]
          refine wpAnyJ_done (by kernel_rfl) ?_ _
          obtain ⟨ne, hne⟩ : ∃ x : Rt × Value, x = (rv, .slice q5 rv.code.length d5) := ⟨_, rfl⟩
          rw [← hne] at ho9 N9 X8
          have ef : st2.bad = false → ne.1 = rw' := fun hb => by rw [hne]; exact QV.out hb
          have el : (lf ++ [ne]).length = lf.length + 1 := by simp
          have mz := (Mv.refl w9 (fun j => j = r6)).set (g := r6) rfl 1 (.slice (some ⟨g9, 0, none⟩) (lf.length + 1) c19)
          have L10 := hide (L9b.set (i := 1) (v := .slice (some ⟨g9, 0, none⟩) (lf.length + 1) c19) rfl)
          have O10 : Hid ((w9.setCell ⟨r6, 1, none⟩ (.slice (some ⟨g9, 0, none⟩) (lf.length + 1) c19)).ownsRow (r6 + 1) 45 4 (.slice (some ⟨g9, 0, none⟩) (lf.length + 1) c19) (lf ++ [ne]).length (rtsC (lf ++ [ne]))) := by
            unfold Hid
            rw [el, rtsC_snoc]
            exact mz.own ho9 (fun g e1 e2 => by have := (ho9.lt g e1).1; omega)
          have Q10 := hide (mz.own Q9 (fun g e1 e2 => by have := (Q9.lt g e1).1; omega))
          have S10 := hide (S9.mv mz (fun jj h1 _ _ _ _ _ _ e => by omega))
          have N10 := hide (N9.mv mz (fun _ _ jj h1 _ e => by omega))
          have X10 := hide X8
          have HD2 : Hid ((lf ++ [ne]).length = i + 1) := by unfold Hid; rw [el, hdn.out]
          have HV3 : Hid (x.bad = false → rtsL b m2 s3 = (lf ++ [ne]).map Prod.fst ++ rtsL b (m2 - (i + 1)) st2) := fun hb => by rw [HV2.out hb, List.map_append, List.map_singleton, ef (GD.out hb)]
          clear ho9 hg9 m9 L9b CA ZA L8 O8 C8 CB hL0 hO0 hS0 hF0 hOS S8 F8 N8 N9 S9 Q8 Q9 X8 mz el ef hne CN so8 HV2 QV
          go_wp2_with fail
          go_roundw
          case rel => exact ⟨i + 1, st2, lf ++ [ne], _, by go_num, by omega, HD2.out, HX2.out, HV3.out, Q10.out, O10.out, S10.out, N10.out, X10.out, L10.out⟩
          case measure => simp [intOf]; omega
        | false =>
          have hend : st.bad = true ∨ i = m2 := by
            rcases Nat.lt_or_ge i m2 with h | h
            · left
              cases hb : st.bad with
              | true => rfl
              | false => rw [hb] at hgo; simp [h] at hgo
            · right
              omega
          have hx2 : x = st := by
            rcases hend with h | h
            · rw [hx.out]; exact rtsG_bad _ h
            · rw [hx.out, h, Nat.sub_self]; rfl
          have hv2 : x.bad = false → rtsL b m2 s3 = lf.map Prod.fst := fun hb => by
            rcases hend with h | h
            · rw [← hx2, hb] at h; cases h
            · rw [hv.out hb, h, Nat.sub_self, rtsL, List.append_nil]
          have HVF := hide hv2
          subst hx2
          clear hx hv hv2 hdn hend hgo
          obtain ⟨ao8, c8, ⟨b0, b1, b2, b3⟩, -, -, -⟩ := hlp.out.2.2.1.cells
          obtain ⟨q0, q1⟩ := row2 hlp.out.1
          obtain ⟨y0, y1⟩ := row2 hlp.out.2.1
          have z : ∀ q, wr.frozen? ⟨r2, q, none⟩ = false := fun q => frozen_of_row wr r2 q _ 27 hlp.out.1
          have hat := hlp.out.2.2.1.2.1
          have hws : W.heap.size ≤ wr.heap.size := hlp.out.2.2.2.1.size
          have BW : Below W.heap.size W wr := hlp.out.2.2.2.1.below (Nat.le_refl _) (fun j e => by omega)
          by_cases hok : (x.bad || decide (x.at' < b.length)) = true
          · have HR2 : Hid (R = .inl x.at') := by unfold Hid; rw [HR.out, if_pos hok]
            have mz := ((Mv.refl wr (fun j => j = r2)).set (g := r2) rfl 0 (.slice none 0 0)).set (g := r2) rfl 1 (.slice none 0 0)
            have F : Hid (((wr.setCell ⟨r2, 0, none⟩ (.slice none 0 0)).setCell ⟨r2, 1, none⟩ (.slice none 0 0)).drew.heap[r2]? = some (.cells #[.slice none 0 0, .slice none 0 0] 27 (0, 0))) := heap_setCell_same _ r2 1 _ 27 _ (heap_setCell_same wr r2 0 _ 27 _ hlp.out.1)
            have G : Hid (DdOut W R (.returned (.tuple #[.agg #[.slice none 0 0, .slice none 0 0], .int .i64 (x.at' : Int), .int .i64 130])) ((wr.setCell ⟨r2, 0, none⟩ (.slice none 0 0)).setCell ⟨r2, 1, none⟩ (.slice none 0 0)).drew) := by
              unfold Hid
              rw [HR2.out]
              exact ⟨below_on (BW.trans (mz.below hws (fun j e => by omega))) (below_drew _), rfl⟩
            have lt' : x.bad = true ∨ (x.bad = false ∧ x.at' < b.length) := by
              cases hb : x.bad with
              | true => exact .inl rfl
              | false => rw [hb] at hok; exact .inr ⟨rfl, by simpa using hok⟩
            clear mz HR HR2 hok BW
            have SS : wr.drew.cell? ⟨k, 1, none⟩ = some (.int .i64 (x.at' : Int)) := b1
            rcases lt' with hb | ⟨hb, hlt⟩
            · rw [hb] at b2
              go_upto_region 20 with fail
              go_region
              all_goals go_wp2_with fail
              all_goals exact bodyPost_ret (v := .tuple #[.agg #[.slice none 0 0, .slice none 0 0], .int .i64 (x.at' : Int), .int .i64 130]) (res_pg3 rfl rfl rfl rfl F.out) rfl G.out
            · rw [hb] at b2
              have t1 : (x.at' : Int) < (b.length : Int) := by omega
              go_upto_region 20 with fail
              go_region
              all_goals go_wp2_with fail
              all_goals exact bodyPost_ret (v := .tuple #[.agg #[.slice none 0 0, .slice none 0 0], .int .i64 (x.at' : Int), .int .i64 130]) (res_pg3 rfl rfl rfl rfl F.out) rfl G.out
          · have hR2 : R = .inr v := by rw [HR.out, if_neg hok]
            have hb : x.bad = false := by
              cases hb : x.bad with
              | true => rw [hb] at hok; simp at hok
              | false => rfl
            obtain ⟨hb2, hv9⟩ := HV.out hb
            have V1 : v.sys = ls.map Prod.fst := by rw [hv9]; exact HVS.out hb2
            have V2 : v.fns = lf.map Prod.fst := by rw [hv9]; exact HVF.out hb
            rw [hb] at b2 hok
            have hge : ¬ (x.at' : Int) < (b.length : Int) := by
              intro e
              apply hok
              simp
              omega
            have mz := ((Mv.refl wr (fun j => j = r2)).set (g := r2) rfl 0 (.slice ao9 ls.length c9)).set (g := r2) rfl 1 (.slice af lf.length cf)
            have F : Hid (((wr.setCell ⟨r2, 0, none⟩ (.slice ao9 ls.length c9)).setCell ⟨r2, 1, none⟩ (.slice af lf.length cf)).heap[r2]? = some (.cells #[.slice ao9 ls.length c9, .slice af lf.length cf] 27 (0, 0))) := heap_setCell_same _ r2 1 _ 27 _ (heap_setCell_same wr r2 0 _ 27 _ hlp.out.1)
            have g1 := own_lower (mz.own howS.out (fun g e1 e2 => by have := (howS.out.lt g e1).1; omega)) (show W.heap.size ≤ r6 + 1 by omega)
            have g2 := own_lower (mz.own howF.out (fun g e1 e2 => by have := (howF.out.lt g e1).1; omega)) (show W.heap.size ≤ r6 + 1 by omega)
            have g3 := (hsS.out.mv mz (fun jj h1 _ _ _ _ _ _ e => by omega)).lower (show W.heap.size ≤ r6 + 1 by omega)
            have g4 := hsF.out.mv mz (fun _ _ jj h1 _ e => by omega)
            have G : Hid (DdOut W R (.returned (.tuple #[.agg #[.slice ao9 ls.length c9, .slice af lf.length cf], .int .i64 0, .int .i64 0])) ((wr.setCell ⟨r2, 0, none⟩ (.slice ao9 ls.length c9)).setCell ⟨r2, 1, none⟩ (.slice af lf.length cf))) := by
              unfold Hid
              rw [hR2]
              exact ⟨BW.trans (mz.below hws (fun j e => by omega)), _, _, rfl, ls, lf, V1, V2, g1, g2, g3, ⟨fun p hp => own_lower (g4.1 p hp) (show W.heap.size ≤ r6 + 1 by omega), g4.2⟩, hcr.out⟩
            clear HR hR2 hok mz g1 g2 g3 g4 V1 V2 hv9 hb2 BW HV
            go_wp2_with fail
            exact bodyPost_ret (v := .tuple #[.agg #[.slice ao9 ls.length c9, .slice af lf.length cf], .int .i64 0, .int .i64 0]) (res_pg3 rfl rfl rfl rfl F.out) rfl G.out
end Go.Proofs.YtpolajoephjdhaaGreatDoor
