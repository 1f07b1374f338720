import Derived.Test.YtkohlhnkaklnpaaRdL
import Derived.Deep.AppendLies
/-
  RecordReads: a round of Walk, the first time.
-/
namespace Go.Proofs.Ytkohlhnkaklnpaa
open Go.RowKit Go.Shelf
attribute [local go_sem] Oper.semAt_some
set_option maxRecDepth 100000
/-- It was left at the place that was asked for. -/
def Ix0 (b : List UInt8) (iB pB tB : Nat) (f : Value → Array Value) (wS : World) (stop : Int) (c : Code) (_ : List (List UInt8)) (W : World) : Prop := c = .exit 12 ∧ ∃ ds', Ti b iB pB tB f wS ds' W ∧ (ds'.length : Int) = stop
/-- Likewise, and all of it lies below M. -/
def Tm (b : List UInt8) (iB pB tB : Nat) (f : Value → Array Value) (wS : World) (M : Nat) (ds' : List (List UInt8)) (W : World) : Prop :=
  ∃ kk lt us, Rc.Told b ds' kk ∧ W.heap[iB]? = some (.cells #[.int .i64 (ds'.length : Nat)] 3 (0, 0)) ∧ W.heap[pB]? = some (.cells #[.int .i64 (kk : Nat)] 3 (0, 0)) ∧ W.heap[tB]? = some (.cells (f lt) 56 (0, 0)) ∧
    W.ownsRow wS.heap.size 22 1 lt ds'.length us ∧ Pieces W wS.heap.size us ds' ∧ Mv wS W (Bx iB pB tB) ∧ ∀ u ∈ us, ∀ g, u.ownBlock = some g → g < M
theorem Tm.ti {b : List UInt8} {iB pB tB M : Nat} {f : Value → Array Value} {wS W : World} {ds' : List (List UInt8)} (h : Tm b iB pB tB f wS M ds' W) : Ti b iB pB tB f wS ds' W := by
  obtain ⟨kk, lt, us, t1, t2, t3, t4, t5, t6, t7, _⟩ := h
  exact ⟨kk, lt, us, t1, t2, t3, t4, t5, t6, t7⟩
theorem Ti.tm {b : List UInt8} {iB pB tB : Nat} {f : Value → Array Value} {wS W1 W : World} {ds' : List (List UInt8)} {row : Option Nat} (h : Ti b iB pB tB f wS ds' W1) (hg : W1.grownBy W row) (hr : ∀ r, row = some r → wS.heap.size ≤ r ∧ ∃ o : Obj, W1.heap[r]? = some o ∧ o.isCells = false) : Tm b iB pB tB f wS W1.heap.size ds' W := by
  obtain ⟨kk, lt, us, t1, t2, t3, t4, t5, t6, t7⟩ := h
  have hr' := fun r e => (hr r e).2
  exact ⟨kk, lt, us, t1, heap_kept t2 rfl hg hr', heap_kept t3 rfl hg hr', heap_kept t4 rfl hg hr', own_kept t5 hg hr', pieces_kept t6 hg hr', t7.trans (S' := fun k => row = some k) ⟨hg.1, hg.2, hg.3, hg.size, fun k hk hs => hg.block k hk (fun e => hs e.symm)⟩ (fun k hk e => absurd (hr k e).1 (by omega)), fun u hu g e => (t6.lt u hu g e).2⟩
theorem Tm.on {b : List UInt8} {iB pB tB M : Nat} {f : Value → Array Value} {wS W W' : World} {ds' : List (List UInt8)} (h : Tm b iB pB tB f wS M ds' W) (hb : Below W.heap.size W W') : Tm b iB pB tB f wS M ds' W' := by
  obtain ⟨kk, lt, us, t1, t2, t3, t4, t5, t6, t7, t8⟩ := h
  have hg := grown_later hb
  have hr : ∀ r, (none : Option Nat) = some r → ∃ o : Obj, W.heap[r]? = some o ∧ o.isCells = false := fun r e => by cases e
  exact ⟨kk, lt, us, t1, heap_kept t2 rfl hg hr, heap_kept t3 rfl hg hr, heap_kept t4 rfl hg hr, own_kept t5 hg hr, pieces_kept t6 hg hr, t7.later hb, t8⟩
theorem listed_nil {w : World} {B : Nat} {v : Value} {ds : List (List UInt8)} (h : Listed w B v ds) (i : Nat) (hi : i < ds.length) {g : Nat} {c : Nat} (hv : v = .slice (some ⟨g, 0, none⟩) ds.length c) {u : Value} (hc : w.cell? ⟨g, i, none⟩ = some u) : NilOr u := by
  obtain ⟨us, h1, h2, h3⟩ := h
  rw [hv] at h1
  have := h1.cellAt i (by omega)
  rw [hc, List.getElem?_eq_getElem (by omega)] at this
  obtain rfl := (Option.some.inj this).symm
  exact own_nilOr (h3 i (by omega) hi)
theorem keeps_below {W W' : World} (h : Below W.heap.size W W') : KeepsOthers W W' := ⟨h.size, fun k _ hk _ => (h.block k (lt_of_block hk)).trans hk⟩
/-- One more was told. -/
theorem Ti.next {b d : List UInt8} {iB pB tB M kk : Nat} {f : Value → Array Value} {wS W wf : World} {ds' : List (List UInt8)} {lt lt' v : Value} {us : List Value} (t1 : Rc.Told b ds' kk) (t5 : W.ownsRow wS.heap.size 22 1 lt ds'.length us) (t6 : Pieces W wS.heap.size us ds') (t7 : Mv wS W (Bx iB pB tB))
    (hg : (Rc.get (b.drop kk)).2 ≠ 0) (hd : d = (Rc.get (b.drop kk)).1) (hp : Piece W M v d) (hM : wS.heap.size ≤ M) (hMu : ∀ u ∈ us, ∀ g, u.ownBlock = some g → g < M) (hx : iB < wS.heap.size ∧ pB < wS.heap.size ∧ tB < wS.heap.size)
    (e1 : wf.heap[iB]? = some (.cells #[.int .i64 ((ds'.length : Int) + 1)] 3 (0, 0))) (e2 : wf.heap[pB]? = some (.cells #[.int .i64 ((kk : Int) + ((Rc.made d).length : Nat))] 3 (0, 0))) (e3 : wf.heap[tB]? = some (.cells (f lt') 56 (0, 0)))
    (e4 : wf.ownsRow wS.heap.size 22 1 lt' (ds'.length + 1) (us ++ [v])) (hm : Mv W wf (fun k => Bx iB pB tB k ∨ lt.ownBlock = some k)) : Ti b iB pB tB f wS (ds' ++ [d]) wf := by
  have hml : (Rc.made d).length = (Rc.get (b.drop kk)).2 := by rw [hd]; exact Rc.made_len hg
  have hpp : Pieces W wS.heap.size (us ++ [v]) (ds' ++ [d]) := t6.push hp (by rw [hd]; exact Rc.get_ne hg) hM hMu
  refine ⟨kk + (Rc.get (b.drop kk)).2, lt', us ++ [v], by rw [hd]; exact t1.more hg, ?_, ?_, e3, ?_, ?_, ?_⟩
  · rw [e1, List.length_append]
    rfl
  · rw [e2, hml]
    rfl
  · rw [List.length_append]
    exact e4
  · refine ((pieces_keep hpp).mv hm (fun k ⟨u, hu, e⟩ e' => ?_)).here
    have hk := (hpp.lt u hu k e).1
    rcases e' with e' | e'
    · unfold Bx at e'
      omega
    · obtain ⟨j, hj, rfl⟩ := List.getElem_of_mem hu
      exact piece_ap (hpp.2.1 j hj (by rw [← hpp.1]; exact hj)).1 t5 k e e'
  · refine t7.trans hm (fun k hk e => ?_)
    rcases e with e | e
    · exact e
    · have := (t5.lt k e).1
      omega
set_option maxHeartbeats 16000000 in
theorem body0 {w0 wS W : World} {stop : Int} {A : Act} {b d : List UInt8} {ds ds' : List (List UInt8)} {iB pB tB qB aB bW bx l n k KK M : Nat} {va vo v : Value} {Zs : Nat → Prop} (hTT : Rc.Told b ds KK) (hT0 : (Rc.get (b.drop KK)).2 = 0)
    (hsf : Keeps Zs wS (Sf 0 stop b w0 qB aB bW bx va vo ds)) (hz : ∀ k, Zs k → ¬ Bx iB pB tB k) (hne : iB ≠ pB ∧ iB ≠ tB ∧ pB ≠ tB ∧ iB < wS.heap.size ∧ pB < wS.heap.size ∧ tB < wS.heap.size)
    (hqz : Zs qB ∧ True) (hI : Tm b iB pB tB (fun x => #[x, .slice none 0 0]) wS M ds' W) (ht : Rc.Told b ds' k) (hg : (Rc.get (b.drop k)).2 ≠ 0) (hd : d = (Rc.get (b.drop k)).1) (hp : Piece W M v d) (hM : wS.heap.size ≤ M)
    (hdl : d.length ≤ 100000000) (hbl : b.length ≤ 1048576)
    (hs : A.tmps.size = 464) (hdf : A.defers = []) (h3 : A.tmps.getD 3 undef = .pointer (some ⟨w0.heap.size, 0, none⟩)) (h4 : A.tmps.getD 4 undef = .pointer (some ⟨w0.heap.size + 1, 0, none⟩)) (h24 : A.tmps.getD 24 undef = .pointer (some ⟨aB, 0, none⟩)) (h41 : A.tmps.getD 41 undef = .pointer (some ⟨tB, 0, none⟩))
    (h42 : A.tmps.getD 42 undef = .pointer (some ⟨qB, 0, none⟩)) (h43 : A.tmps.getD 43 undef = .pointer (some ⟨iB, 0, none⟩)) (h44 : A.tmps.getD 44 undef = .pointer (some ⟨pB, 0, none⟩)) (h45 : A.tmps.getD 45 undef = .int .i64 (k : Nat)) (h46 : A.tmps.getD 46 undef = v) :
    wBody.wpIn (Fence.wide.inRound l) n Try.prog (ownPostK (fun _ _ => True) (Ti b iB pB tB (fun x => #[x, .slice none 0 0]) wS) (Ix0 b iB pB tB (fun x => #[x, .slice none 0 0]) wS stop) (ds' ++ [d]) W) A W := by
  obtain ⟨s, eA, hsk⟩ := act_open A _ hs hdf
  rw [hsk] at h3 h4 h24 h41 h42 h43 h44 h45 h46
  rw [eA, h3, h4, h24, h41, h42, h43, h44, h45, h46]
  clear eA hsk h3 h4 h24 h41 h42 h43 h44 h45 h46 hs hdf
  obtain ⟨r, hr⟩ := Rc.told_prefix ds' b ds KK k hTT hT0 ht hg
  rw [← hd] at hr
  have HI := hide hI.ti
  obtain ⟨kk, lt, us, t1, t2, t3, t4, t5, t6, t7, hMu⟩ := hI
  obtain rfl := Rc.told_uniq _ _ _ _ t1 ht
  have sf := (hsf.mv t7 hz).here
  obtain ⟨aa, ca, rfl, hca1, hca2⟩ := sf.2.2.1.form
  have hlen : ds'.length < ds.length := by rw [hr]; simp
  obtain ⟨ga, x1, x2, x3, rfl, cta, bta⟩ := sf.2.2.1.at ds'.length hlen
  have hdi : ds[ds'.length] = d := by simp [hr]
  rw [hdi] at bta
  have cbox := sf.2.2.1.box
  have hnx := listed_nil sf.2.2.1.2 ds'.length hlen rfl cta
  have cq : W.cell? ⟨qB, 0, none⟩ = some (.int .i64 0) := (cell_of_row _ _ 0 _ 3 (0, 0) sf.1).trans rfl
  have cs : W.cell? ⟨w0.heap.size, 0, none⟩ = some (.int .i64 stop) := (cell_of_row _ _ 0 _ 3 (0, 0) sf.2.1).trans rfl
  have ci : W.cell? ⟨iB, 0, none⟩ = some (.int .i64 (ds'.length : Nat)) := (cell_of_row _ _ 0 _ 3 (0, 0) t2).trans rfl
  have cp : W.cell? ⟨pB, 0, none⟩ = some (.int .i64 (kk : Nat)) := (cell_of_row _ _ 0 _ 3 (0, 0) t3).trans rfl
  have ct : W.cell? ⟨tB, 0, none⟩ = some lt := (cell_of_row _ _ 0 _ 56 (0, 0) t4).trans rfl
  have hcnt := hTT.count
  have hle := hTT.le
  obtain ⟨m, hm⟩ : ∃ m, m = ds'.length := ⟨_, rfl⟩
  obtain ⟨n1, hn1⟩ : ∃ n1, n1 = ds.length := ⟨_, rfl⟩
  rw [← hm] at ci cta hlen
  rw [← hn1] at cbox hlen hca1 hcnt
  have HM := hide (And.intro hm hn1)
  obtain ⟨y1, y2, y3, rfl⟩ := hp.shape
  have HALL := hide (And.intro t1 (And.intro t2 (And.intro t3 (And.intro t4 (And.intro t5 (And.intro t6 t7))))))
  have HSF := hide (And.intro hsf (And.intro hz (And.intro hne (And.intro sf (And.intro hg (And.intro hd (And.intro hMu (And.intro hM (And.intro hp bta)))))))))
  have cva := conv_bs bta
  have cvp := conv_bs hp.bs
  clear t1 t2 t3 t4 t5 t6 t7 hsf hz hne sf hr hdi hm hn1 bta hp hMu hd hg ht hTT hT0 hM
  have HQZ := hide hqz
  have hLO : ¬ LetsOut (ownPostK (fun _ _ => True) (Ti b iB pB tB (fun x => #[x, .slice none 0 0]) wS) (Ix0 b iB pB tB (fun x => #[x, .slice none 0 0]) wS stop) (ds' ++ [d]) W) := fun ⟨_, _, h⟩ => h
  conv => arg 4; whnf
  by_cases hstop : (m : Int) = stop
  · have e0 : ((m : Int) == stop) = true := by rw [beq_iff_eq]; exact hstop
    have HST := hide hstop
    clear hstop
    gi_wp2_with fail
    exact ⟨KeepsOthers.refl _, rfl, ds', HI.out, by rw [← HM.out.1]; exact HST.out⟩
  · have e0 : ((m : Int) == stop) = false := by rw [beq_eq_false_iff_ne]; exact hstop
    clear hstop
    have lt1 : decide ((n1 : Int) ≤ (m : Int)) = false := decide_eq_false (by omega)
    have lt2 : ¬ ((n1 : Int) ≤ (m : Int)) := by omega
    have z1 : ((ByteArray.mk (List.toArray d)).toList == (ByteArray.mk (List.toArray d)).toList) = true := by simp
    have CV : Hid ((convert 22 9 (.slice x1 x2 x3)).run Try.prog W.drew = .ok (.string ⟨d.toArray⟩) W.drew ∧ (convert 22 9 (.slice y1 y2 y3)).run Try.prog W.drew = .ok (.string ⟨d.toArray⟩) W.drew) := ⟨conv_bs (on_bs HSF.out.2.2.2.2.2.2.2.2.2 ((Below.refl _ W).drew)), conv_bs (on_bs HSF.out.2.2.2.2.2.2.2.2.1.bs ((Below.refl _ W).drew))⟩
    gi_wp2_with fail
    refine round_late (J := fun _ => true) (S := fun V => (V.cell? ⟨iB, 0, none⟩ = some (.int .i64 (m : Nat)) ∧ V.cell? ⟨pB, 0, none⟩ = some (.int .i64 (kk : Nat)) ∧ V.cell? ⟨aB, 0, none⟩ = some (.slice (some ⟨ga, 0, none⟩) n1 ca) ∧ V.cell? ⟨ga, m, none⟩ = some (.slice x1 x2 x3)) ∧ (convert 22 9 (.slice x1 x2 x3)).run Try.prog V = .ok (.string ⟨d.toArray⟩) V ∧ (convert 22 9 (.slice y1 y2 y3)).run Try.prog V = .ok (.string ⟨d.toArray⟩) V) (by kernel_rfl) (by kernel_rfl) (fun ⟨_, _, h⟩ => h) ⟨⟨ci, cp, cbox, cta⟩, CV.out.1, CV.out.2⟩ (fun hHeld => ?_)
    refine' wpAnyJ_take (i := 0) (oi := { dst := some 344, op := Op.load 3 (Operand.tmp 43), type := 3, pos := "law.go:224", after := #[], guard := none }) (v := _) rfl (by kernel_rfl) (by kernel_rfl) (by kernel_rfl) (by kernel_rfl) (fun _ _ _ h => h) (Or.inl ⟨by rfl, ?hyP1⟩) (by assumption) ?reP1
    case hyP1 => (intro W hSw; (try dsimp only at hSw); go_simp; try with_reducible rfl)
    try simp only [Act.put, List.setIfInBounds_toArray, List.set_cons_zero, List.set_cons_succ]
    refine' wpAnyJ_take (i := 1) (oi := { dst := some 345, op := Op.load 34 (Operand.tmp 24), type := 34, pos := "law.go:224", after := #[], guard := none }) (v := _) rfl (by kernel_rfl) (by kernel_rfl) (by kernel_rfl) (by kernel_rfl) (fun _ _ _ h => h) (Or.inl ⟨by rfl, ?hyP2⟩) (by assumption) ?reP2
    case hyP2 => (intro W hSw; (try dsimp only at hSw); go_simp; try with_reducible rfl)
    try simp only [Act.put, List.setIfInBounds_toArray, List.set_cons_zero, List.set_cons_succ]
    refine' wpAnyJ_takeW (i := 2) (oi := { dst := some 346, op := Op.call { callee := Callee.builtin Builtin.len, args := #[Operand.tmp 345], argTypes := #[34] }, type := 3, pos := "law.go:224", after := #[{ on := 1, ground := Ground.data }], guard := none }) (v := _) rfl (by kernel_rfl) (by kernel_rfl) (by kernel_rfl) (fun _ _ _ h => h) (Or.inl ⟨by rfl, ?hyP3⟩) ?reP3
    case hyP3 => (intro W hSw; (try dsimp only at hSw); go_simp; try with_reducible rfl)
    try simp only [Act.put, List.setIfInBounds_toArray, List.set_cons_zero, List.set_cons_succ]
    refine' wpAnyJ_takeW (i := 3) (oi := { dst := some 347, op := Op.binOp BinOp.geq 3 (Operand.tmp 344) (Operand.tmp 346) 3, type := 4, pos := "law.go:224", after := #[{ on := 0, ground := Ground.data }, { on := 2, ground := Ground.data }], guard := none }) (v := .bool false) rfl (by kernel_rfl) (by kernel_rfl) (by kernel_rfl) (fun _ _ _ h => h) (Or.inl ⟨by rfl, ?hyP4⟩) ?reP4
    case hyP4 => (intro W hSw; (try dsimp only at hSw); go_simp; try with_reducible rfl)
    try simp only [Act.put, List.setIfInBounds_toArray, List.set_cons_zero, List.set_cons_succ]
    refine' wpAnyJ_takeW (i := 4) (oi := { dst := some 348, op := Op.move (Operand.tmp 347), type := 4, pos := "law.go:224", after := #[{ on := 3, ground := Ground.data }], guard := none }) (v := .bool false) rfl (by kernel_rfl) (by kernel_rfl) (by kernel_rfl) (fun _ _ _ h => h) (Or.inl ⟨by rfl, ?hyP5⟩) ?reP5
    case hyP5 => (intro W hSw; (try dsimp only at hSw); go_simp; try with_reducible rfl)
    try simp only [Act.put, List.setIfInBounds_toArray, List.set_cons_zero, List.set_cons_succ]
    refine' wpAnyJ_takeW (i := 5) (oi := { dst := some 349, op := Op.move (Operand.tmp 45), type := 3, pos := "law.go:224", after := #[{ on := 4, ground := Ground.guard }], guard := some (4, false) }) (v := _) rfl (by kernel_rfl) (by kernel_rfl) (by kernel_rfl) (fun _ _ _ h => h) (Or.inl ⟨by rfl, ?hyP6⟩) ?reP6
    case hyP6 => (intro W hSw; (try dsimp only at hSw); go_simp; try with_reducible rfl)
    try simp only [Act.put, List.setIfInBounds_toArray, List.set_cons_zero, List.set_cons_succ]
    refine' wpAnyJ_take (i := 6) (oi := { dst := some 350, op := Op.load 3 (Operand.tmp 44), type := 3, pos := "law.go:224", after := #[{ on := 4, ground := Ground.guard }], guard := some (4, false) }) (v := _) rfl (by kernel_rfl) (by kernel_rfl) (by kernel_rfl) (by kernel_rfl) (fun _ _ _ h => h) (Or.inl ⟨by rfl, ?hyP7⟩) (by assumption) ?reP7
    case hyP7 => (intro W hSw; (try dsimp only at hSw); go_simp; try with_reducible rfl)
    try simp only [Act.put, List.setIfInBounds_toArray, List.set_cons_zero, List.set_cons_succ]
    refine' wpAnyJ_takeW (i := 7) (oi := { dst := some 351, op := Op.binOp BinOp.neq 3 (Operand.tmp 349) (Operand.tmp 350) 3, type := 4, pos := "law.go:224", after := #[{ on := 5, ground := Ground.data }, { on := 6, ground := Ground.data }, { on := 4, ground := Ground.guard }], guard := some (4, false) }) (v := .bool false) rfl (by kernel_rfl) (by kernel_rfl) (by kernel_rfl) (fun _ _ _ h => h) (Or.inl ⟨by rfl, ?hyP8⟩) ?reP8
    case hyP8 => (intro W hSw; (try dsimp only at hSw); go_simp; try with_reducible rfl)
    try simp only [Act.put, List.setIfInBounds_toArray, List.set_cons_zero, List.set_cons_succ]
    refine' wpAnyJ_takeW (i := 8) (oi := { dst := some 352, op := Op.pick (Operand.tmp 348) (Operand.const (Value.bool true)) (Operand.tmp 351), type := 4, pos := "law.go:224", after := #[{ on := 4, ground := Ground.data }, { on := 7, ground := Ground.data }], guard := none }) (v := .bool false) rfl (by kernel_rfl) (by kernel_rfl) (by kernel_rfl) (fun _ _ _ h => h) (Or.inl ⟨by rfl, ?hyP9⟩) ?reP9
    case hyP9 => (intro W hSw; (try dsimp only at hSw); go_simp; try with_reducible rfl)
    try simp only [Act.put, List.setIfInBounds_toArray, List.set_cons_zero, List.set_cons_succ]
    refine' wpAnyJ_takeW (i := 9) (oi := { dst := some 353, op := Op.move (Operand.tmp 352), type := 4, pos := "law.go:224", after := #[{ on := 8, ground := Ground.data }, { on := 4, ground := Ground.chain }], guard := none }) (v := .bool false) rfl (by kernel_rfl) (by kernel_rfl) (by kernel_rfl) (fun _ _ _ h => h) (Or.inl ⟨by rfl, ?hyP10⟩) ?reP10
    case hyP10 => (intro W hSw; (try dsimp only at hSw); go_simp; try with_reducible rfl)
    try simp only [Act.put, List.setIfInBounds_toArray, List.set_cons_zero, List.set_cons_succ]
    refine' wpAnyJ_takeW (i := 10) (oi := { dst := some 354, op := Op.move (Operand.tmp 46), type := 22, pos := "law.go:224", after := #[{ on := 9, ground := Ground.guard }], guard := some (9, false) }) (v := _) rfl (by kernel_rfl) (by kernel_rfl) (by kernel_rfl) (fun _ _ _ h => h) (Or.inl ⟨by rfl, ?hyP11⟩) ?reP11
    case hyP11 => (intro W hSw; (try dsimp only at hSw); go_simp; try with_reducible rfl)
    try simp only [Act.put, List.setIfInBounds_toArray, List.set_cons_zero, List.set_cons_succ]
    refine' wpAnyJ_take (i := 11) (oi := { dst := some 355, op := Op.convert 22 9 (Operand.tmp 354), type := 9, pos := "law.go:224", after := #[{ on := 10, ground := Ground.data }, { on := 9, ground := Ground.guard }], guard := some (9, false) }) (v := _) rfl (by kernel_rfl) (by kernel_rfl) (by kernel_rfl) (by kernel_rfl) (fun _ _ _ h => h) (Or.inl ⟨by rfl, ?hyP12⟩) (by assumption) ?reP12
    case hyP12 => (intro W hSw; (try dsimp only at hSw); go_simp; try with_reducible rfl)
    try simp only [Act.put, List.setIfInBounds_toArray, List.set_cons_zero, List.set_cons_succ]
    refine' wpAnyJ_take (i := 12) (oi := { dst := some 356, op := Op.load 34 (Operand.tmp 24), type := 34, pos := "law.go:224", after := #[{ on := 9, ground := Ground.guard }], guard := some (9, false) }) (v := _) rfl (by kernel_rfl) (by kernel_rfl) (by kernel_rfl) (by kernel_rfl) (fun _ _ _ h => h) (Or.inl ⟨by rfl, ?hyP13⟩) (by assumption) ?reP13
    case hyP13 => (intro W hSw; (try dsimp only at hSw); go_simp; try with_reducible rfl)
    try simp only [Act.put, List.setIfInBounds_toArray, List.set_cons_zero, List.set_cons_succ]
    refine' wpAnyJ_take (i := 13) (oi := { dst := some 357, op := Op.load 3 (Operand.tmp 43), type := 3, pos := "law.go:224", after := #[{ on := 9, ground := Ground.guard }], guard := some (9, false) }) (v := _) rfl (by kernel_rfl) (by kernel_rfl) (by kernel_rfl) (by kernel_rfl) (fun _ _ _ h => h) (Or.inl ⟨by rfl, ?hyP14⟩) (by assumption) ?reP14
    case hyP14 => (intro W hSw; (try dsimp only at hSw); go_simp; try with_reducible rfl)
    try simp only [Act.put, List.setIfInBounds_toArray, List.set_cons_zero, List.set_cons_succ]
    refine' wpAnyJ_takeW (i := 14) (oi := { dst := some 358, op := Op.indexAddr 34 (Operand.tmp 356) (Operand.tmp 357), type := 0, pos := "law.go:224", after := #[{ on := 12, ground := Ground.data }, { on := 13, ground := Ground.data }, { on := 9, ground := Ground.guard }], guard := some (9, false) }) (v := _) rfl (by kernel_rfl) (by kernel_rfl) (by kernel_rfl) (fun _ _ _ h => h) (Or.inl ⟨by rfl, ?hyP15⟩) ?reP15
    case hyP15 => (intro W hSw; (try dsimp only at hSw); go_simp; try with_reducible rfl)
    try simp only [Act.put, List.setIfInBounds_toArray, List.set_cons_zero, List.set_cons_succ]
    refine' wpAnyJ_take (i := 15) (oi := { dst := some 359, op := Op.load 22 (Operand.tmp 358), type := 22, pos := "law.go:224", after := #[{ on := 14, ground := Ground.data }, { on := 9, ground := Ground.guard }], guard := some (9, false) }) (v := _) rfl (by kernel_rfl) (by kernel_rfl) (by kernel_rfl) (by kernel_rfl) (fun _ _ _ h => h) (Or.inl ⟨by rfl, ?hyP16⟩) (by assumption) ?reP16
    case hyP16 => (intro W hSw; (try dsimp only at hSw); go_simp; try with_reducible rfl)
    try simp only [Act.put, List.setIfInBounds_toArray, List.set_cons_zero, List.set_cons_succ]
    refine' wpAnyJ_take (i := 16) (oi := { dst := some 360, op := Op.convert 22 9 (Operand.tmp 359), type := 9, pos := "law.go:224", after := #[{ on := 15, ground := Ground.data }, { on := 9, ground := Ground.guard }], guard := some (9, false) }) (v := _) rfl (by kernel_rfl) (by kernel_rfl) (by kernel_rfl) (by kernel_rfl) (fun _ _ _ h => h) (Or.inl ⟨by rfl, ?hyP17⟩) (by assumption) ?reP17
    case hyP17 => (intro W hSw; (try dsimp only at hSw); go_simp; try with_reducible rfl)
    try simp only [Act.put, List.setIfInBounds_toArray, List.set_cons_zero, List.set_cons_succ]
    refine' wpAnyJ_takeW (i := 17) (oi := { dst := some 361, op := Op.binOp BinOp.neq 9 (Operand.tmp 355) (Operand.tmp 360) 9, type := 4, pos := "law.go:224", after := #[{ on := 11, ground := Ground.data }, { on := 16, ground := Ground.data }, { on := 9, ground := Ground.guard }], guard := some (9, false) }) (v := .bool false) rfl (by kernel_rfl) (by kernel_rfl) (by kernel_rfl) (fun _ _ _ h => h) (Or.inl ⟨by rfl, ?hyP18⟩) ?reP18
    case hyP18 => (intro W hSw; (try dsimp only at hSw); go_simp; try with_reducible rfl)
    try simp only [Act.put, List.setIfInBounds_toArray, List.set_cons_zero, List.set_cons_succ]
    refine' wpAnyJ_takeW (i := 18) (oi := { dst := some 362, op := Op.pick (Operand.tmp 353) (Operand.const (Value.bool true)) (Operand.tmp 361), type := 4, pos := "law.go:224", after := #[{ on := 9, ground := Ground.data }, { on := 17, ground := Ground.data }], guard := none }) (v := .bool false) rfl (by kernel_rfl) (by kernel_rfl) (by kernel_rfl) (fun _ _ _ h => h) (Or.inl ⟨by rfl, ?hyP19⟩) ?reP19
    case hyP19 => (intro W hSw; (try dsimp only at hSw); go_simp; try with_reducible rfl)
    try simp only [Act.put, List.setIfInBounds_toArray, List.set_cons_zero, List.set_cons_succ]
    refine wpAnyJ_done (by kernel_rfl) ?_ _
    have hmade := rmade_any (.slice x1 x2 x3) d W.drew (on_bs HSF.out.2.2.2.2.2.2.2.2.2 ((Below.refl _ W).drew)) hnx (by omega)
    have HMADE := hide hmade
    clear hmade CV cva cvp hHeld
    gi_wp2_with fail
    refine ⟨trivial, (fun h => by cases h), CallsIn.mono (F := Fence.wide.inRound l) (callsIn_wide.2 HMADE.out) ?_⟩
    rintro e w2 ⟨vm, rfl, hvm, hb2'⟩
    have hb2 : Below W.heap.size W w2 := ⟨hb2'.os, hb2'.tape, hb2'.output, hb2'.size, hb2'.block⟩
    obtain ⟨am, cm, rfl⟩ := own_len hvm
    have hml : (Rc.made d).length ≤ 2000000000 := by
      have h1 : (Rc.made d).length = (Rc.get (b.drop kk)).2 := by rw [HSF.out.2.2.2.2.2.1]; exact Rc.made_len HSF.out.2.2.2.2.1
      have h2 := Rc.get_le (b.drop kk)
      rw [List.length_drop] at h2
      omega
    have hkk : kk ≤ 1048576 := by have := HALL.out.1.le; omega
    have hs2 := hb2.size
    have e2t := (hb2.block pB (lt_of_block HALL.out.2.2.1)).trans HALL.out.2.2.1
    have cp2 : w2.cell? ⟨pB, 0, none⟩ = some (.int .i64 (kk : Nat)) := (cell_of_row _ _ 0 _ 3 (0, 0) e2t).trans rfl
    have fp2 : w2.frozen? ⟨pB, 0, none⟩ = false := frozen_of_row _ _ 0 _ 3 e2t
    have HB2 := hide hb2
    have HE2 := hide e2t
    obtain ⟨L, hL⟩ : ∃ L, L = (Rc.made d).length := ⟨_, rfl⟩
    rw [← hL] at hml ⊢
    have HLL := hide hL
    clear hL hb2 hb2' hvm e2t HMADE
    gi_wp2_with fail
    obtain ⟨al, cl, hlt⟩ := own_len HALL.out.2.2.2.2.1
    rw [← HM.out.1] at hlt
    subst hlt
    obtain ⟨i22, hi22, hz0, hz1, hz2⟩ := info_parts info22
    have hw3 : ∀ k, k < W.heap.size → k ≠ pB → (w2.setCell ⟨pB, 0, none⟩ (.int .i64 ((kk : Int) + (L : Int)))).heap[k]? = W.heap[k]? := fun k hk hn => (heap_setCell_other w2 ⟨pB, 0, none⟩ k _ (by simpa using hn)).trans (HB2.out.block k hk)
    have hp3 : (w2.setCell ⟨pB, 0, none⟩ (.int .i64 ((kk : Int) + (L : Int)))).heap[pB]? = some (.cells #[.int .i64 ((kk : Int) + (L : Int))] 3 (0, 0)) := by
      have := heap_setCell_same w2 pB 0 _ 3 (.int .i64 ((kk : Int) + (L : Int))) HE2.out
      simpa using this
    have hK3 : KeepsOthers W (w2.setCell ⟨pB, 0, none⟩ (.int .i64 ((kk : Int) + (L : Int)))) := (keeps_below HB2.out).trans (KeepsOthers.setCell _ _ _)
    have hM3 : Mv W (w2.setCell ⟨pB, 0, none⟩ (.int .i64 ((kk : Int) + (L : Int)))) (fun k => k = pB) := ⟨HB2.out.os, HB2.out.tape, HB2.out.output, by simpa using hs2, hw3⟩
    clear hw3 cp2 fp2 cp
    generalize w2.setCell ⟨pB, 0, none⟩ (.int .i64 ((kk : Int) + (L : Int))) = w3 at *
    have hne := HSF.out.2.2.1
    have hsS := HALL.out.2.2.2.2.2.2.2.2.2.1
    have hs3 := hM3.2.2.2.1
    have q3 : ∀ k, k < W.heap.size → k ≠ pB → w3.heap[k]? = W.heap[k]? := fun k hk hn => hM3.2.2.2.2 k hk hn
    have bq : w3.heap[qB]? = some (.cells #[.int .i64 0] 3 (0, 0)) := (q3 qB (lt_of_block HSF.out.2.2.2.1.1) (fun e => (by have h1 := HSF.out.1.1; exact HSF.out.2.1 qB (HQZ.out.1) (.inr (.inl e))))).trans HSF.out.2.2.2.1.1
    have bt : w3.heap[tB]? = some (.cells #[.slice al m cl, .slice none 0 0] 56 (0, 0)) := (q3 tB (lt_of_block HALL.out.2.2.2.1) (fun e => hne.2.2.1 e.symm)).trans HALL.out.2.2.2.1
    have bi : w3.heap[iB]? = some (.cells #[.int .i64 (m : Nat)] 3 (0, 0)) := by
      have := (q3 iB (lt_of_block HALL.out.2.1) (fun e => hne.1 e)).trans HALL.out.2.1
      rw [← HM.out.1] at this
      exact this
    have ol : w3.ownsRow wS.heap.size 22 1 (.slice al m cl) m us := by
      have := own_on HALL.out.2.2.2.2.1 (fun k e => q3 k (HALL.out.2.2.2.2.1.lt k e).2 (fun e' => by have := (HALL.out.2.2.2.2.1.lt k e).1; have := hne.2.2.2.2.1; omega))
      rw [← HM.out.1] at this
      exact this
    have SZ : Hid (wS.heap.size ≤ w3.heap.size) := by simp only [Hid]; omega
    have LT3 : Hid (w3.drew.ownsRow wS.heap.size 22 1 (.slice al m cl) m us) := ol
    have cq3 : w3.cell? ⟨qB, 0, none⟩ = some (.int .i64 0) := (cell_of_row _ _ 0 _ 3 (0, 0) bq).trans rfl
    have ct3 : w3.cell? ⟨tB, 0, none⟩ = some (.slice al m cl) := (cell_of_row _ _ 0 _ 56 (0, 0) bt).trans rfl
    have GB : Hid (∀ (w9 : World) (k : Nat), (w3.drew.alloc (.cells #[.slice y1 y2 y3] 22)).grownBy w9 (Value.slice al m cl).ownBlock → k < wS.heap.size → w9.heap[k]? = w3.heap[k]?) := fun w9 k hg hk => (hg.block k (by have := SZ.out; simp; omega) (fun e => by have := (ol.lt k e.symm).1; omega)).trans (Below.heap_alloc w3.drew _ k (by have := SZ.out; show k < w3.heap.size; omega))
    have hqS : qB < wS.heap.size := HSF.out.1.1 qB HQZ.out.1
    have SA : Hid ((w3.drew.alloc (.cells #[.slice y1 y2 y3] 22)).cell? ⟨qB, 0, none⟩ = some (.int .i64 0) ∧ (w3.drew.alloc (.cells #[.slice y1 y2 y3] 22)).cell? ⟨tB, 0, none⟩ = some (.slice al m cl)) :=
      ⟨(World.cell?_of_block (Below.heap_alloc w3.drew _ qB (lt_of_block bq))).trans cq3, (World.cell?_of_block (Below.heap_alloc w3.drew _ tB (lt_of_block bt))).trans ct3⟩
    have SB : Hid (∀ w9, (w3.drew.alloc (.cells #[.slice y1 y2 y3] 22)).grownBy w9 (Value.slice al m cl).ownBlock → w9.cell? ⟨qB, 0, none⟩ = some (.int .i64 0) ∧ w9.cell? ⟨tB, 0, none⟩ = some (.slice al m cl)) := fun w9 hg =>
      ⟨(World.cell?_of_block (GB.out w9 qB hg hqS)).trans cq3, (World.cell?_of_block (GB.out w9 tB hg hne.2.2.2.2.2)).trans ct3⟩
    have SF : Hid (∀ w9, (w3.drew.alloc (.cells #[.slice y1 y2 y3] 22)).grownBy w9 (Value.slice al m cl).ownBlock → w9.frozen? ⟨tB, 0, none⟩ = false) := fun w9 hg =>
      frozen_of_row _ _ 0 _ 56 ((GB.out w9 tB hg hne.2.2.2.2.2).trans bt)
    have BB := hide (And.intro bt (And.intro bi (And.intro hp3 (And.intro hK3 (And.intro hM3 hne)))))
    have hm6 : m ≤ 1000000 := by omega
    clear bq bt bi ol hp3 hK3 hM3 q3 hs3 hne hqS HB2 HE2 cs ci cta cbox ct cq lt1 lt2 z1 hsS e0
    refine round_late (J := fun j => j != 8) (S := fun V => V.cell? ⟨qB, 0, none⟩ = some (.int .i64 0) ∧ V.cell? ⟨tB, 0, none⟩ = some (.slice al m cl)) (by kernel_rfl) (by kernel_rfl) (fun ⟨_, _, h⟩ => h) ⟨cq3, ct3⟩ (fun hHeld => ?_)
    refine' wpAnyJ_take (i := 0) (oi := { dst := some 388, op := Op.load 3 (Operand.tmp 42), type := 3, pos := "law.go:238", after := #[], guard := none }) (v := _) rfl (by kernel_rfl) (by kernel_rfl) (by kernel_rfl) (by kernel_rfl) (fun _ _ _ h => h) (Or.inl ⟨by rfl, ?hyR1⟩) (by assumption) ?reR1
    case hyR1 => (intro W hSw; (try dsimp only at hSw); go_simp; try with_reducible rfl)
    try simp only [Act.put, List.setIfInBounds_toArray, List.set_cons_zero, List.set_cons_succ]
    refine' wpAnyJ_take (i := 1) (oi := { dst := some 389, op := Op.load 3 (Operand.tmp 42), type := 3, pos := "law.go:238", after := #[], guard := none }) (v := _) rfl (by kernel_rfl) (by kernel_rfl) (by kernel_rfl) (by kernel_rfl) (fun _ _ _ h => h) (Or.inl ⟨by rfl, ?hyR2⟩) (by assumption) ?reR2
    case hyR2 => (intro W hSw; (try dsimp only at hSw); go_simp; try with_reducible rfl)
    try simp only [Act.put, List.setIfInBounds_toArray, List.set_cons_zero, List.set_cons_succ]
    refine' wpAnyJ_takeW (i := 2) (oi := { dst := some 390, op := Op.indexAddr 56 (Operand.tmp 41) (Operand.tmp 389), type := 0, pos := "law.go:238", after := #[{ on := 1, ground := Ground.data }], guard := none }) (v := _) rfl (by kernel_rfl) (by kernel_rfl) (by kernel_rfl) (fun _ _ _ h => h) (Or.inl ⟨by rfl, ?hyR3⟩) ?reR3
    case hyR3 => (intro W hSw; (try dsimp only at hSw); go_simp; try with_reducible rfl)
    try simp only [Act.put, List.setIfInBounds_toArray, List.set_cons_zero, List.set_cons_succ]
    refine' wpAnyJ_take (i := 3) (oi := { dst := some 391, op := Op.load 34 (Operand.tmp 390), type := 34, pos := "law.go:238", after := #[{ on := 2, ground := Ground.data }], guard := none }) (v := _) rfl (by kernel_rfl) (by kernel_rfl) (by kernel_rfl) (by kernel_rfl) (fun _ _ _ h => h) (Or.inl ⟨by rfl, ?hyR4⟩) (by assumption) ?reR4
    case hyR4 => (intro W hSw; (try dsimp only at hSw); go_simp; try with_reducible rfl)
    try simp only [Act.put, List.setIfInBounds_toArray, List.set_cons_zero, List.set_cons_succ]
    refine' wpAnyJ_takeW (i := 4) (oi := { dst := some 392, op := Op.move (Operand.tmp 46), type := 22, pos := "law.go:238", after := #[], guard := none }) (v := _) rfl (by kernel_rfl) (by kernel_rfl) (by kernel_rfl) (fun _ _ _ h => h) (Or.inl ⟨by rfl, ?hyR5⟩) ?reR5
    case hyR5 => (intro W hSw; (try dsimp only at hSw); go_simp; try with_reducible rfl)
    try simp only [Act.put, List.setIfInBounds_toArray, List.set_cons_zero, List.set_cons_succ]
    refine wpAnyJ_ready (rs := [5]) (by kernel_rfl) (by simp) ?_
    refine AllReadyJ.cons (o := { dst := some 393, op := Op.buildSlice 34 1 #[(0, Operand.tmp 392)], type := 34, pos := "law.go:238", after := #[{ on := 4, ground := Ground.data }], guard := none }) rfl (fun K hK => ?_) AllReadyJ.nil
    go_simp
    refine hK.out _ _ (fun _ _ => SA.out) ?_
    clear hK K
    try simp only [Act.put, List.setIfInBounds_toArray, List.set_cons_zero, List.set_cons_succ]
    refine wpAnyJ_ready (rs := [6]) (by kernel_rfl) (by simp) ?_
    refine AllReadyJ.cons (o := { dst := some 394, op := Op.call { callee := Callee.builtin Builtin.append, args := #[Operand.tmp 391, Operand.tmp 393], argTypes := #[34, 34] }, type := 34, pos := "law.go:238", after := #[{ on := 3, ground := Ground.data }, { on := 5, ground := Ground.data }], guard := none }) rfl (fun K hK => ?_) AllReadyJ.nil
    refine step_append_lies _ rfl (.tmp 391) (.tmp 393) 34 rfl wS.heap.size 22 i22 (.slice none 0 0) 1 24 Try.underlying34 hi22 hz0 hz1 hz2 rfl (by decide) (.slice al m cl) m us (by simp [Act.eval]) (LT3.out.alloc _) ⟨w3.heap.size, 0, none⟩ 1 1 [.slice y1 y2 y3] (by simp [Act.eval]) rfl (by intro j u hj; match j, hj with | 0, hj => simp at hj; subst hj; simp [Addr.add]) (by intro u hu; simp at hu; subst hu; rfl) (by omega) (by unfold maxLen; omega) (by omega) ?hbb _ rfl ?_
    case hbb => (have := SZ.out; simp; omega)
    intro g9 c9 w9 ho9 hg9 ha9 _
    have G9 := hide (And.intro ho9 (And.intro hg9 ha9))
    have S9 := hide (SB.out w9 hg9)
    clear ho9 hg9 ha9
    refine hK.out _ _ (fun _ _ => S9.out) ?_
    clear hK K
    obtain ⟨d1, d2⟩ := S9.out
    have fz := SF.out w9 G9.out.2.1
    try simp only [Act.put, List.setIfInBounds_toArray, List.set_cons_zero, List.set_cons_succ]
    refine' wpAnyJ_takeW (i := 7) (oi := { dst := some 395, op := Op.indexAddr 56 (Operand.tmp 41) (Operand.tmp 388), type := 0, pos := "law.go:238", after := #[{ on := 0, ground := Ground.data }, { on := 0, ground := Ground.phase }, { on := 1, ground := Ground.phase }, { on := 2, ground := Ground.phase }, { on := 3, ground := Ground.phase }, { on := 4, ground := Ground.phase }, { on := 5, ground := Ground.phase }, { on := 6, ground := Ground.phase }], guard := none }) (v := _) rfl (by kernel_rfl) (by kernel_rfl) (by kernel_rfl) (fun _ _ _ h => h) (Or.inl ⟨by rfl, ?hyR6⟩) ?reR6
    case hyR6 => (intro W hSw; (try dsimp only at hSw); go_simp; try with_reducible rfl)
    try simp only [Act.put, List.setIfInBounds_toArray, List.set_cons_zero, List.set_cons_succ]
    refine wpAnyJ_ready (rs := [8]) (by kernel_rfl) (by simp) ?_
    refine AllReadyJ.cons (o := { dst := none, op := Op.store 34 (Operand.tmp 395) (Operand.tmp 394), type := 0, pos := "law.go:238", after := #[{ on := 7, ground := Ground.data }, { on := 6, ground := Ground.data }, { on := 6, ground := Ground.chain }, { on := 0, ground := Ground.phase }, { on := 1, ground := Ground.phase }, { on := 2, ground := Ground.phase }, { on := 3, ground := Ground.phase }, { on := 4, ground := Ground.phase }, { on := 5, ground := Ground.phase }, { on := 6, ground := Ground.phase }], guard := none }) rfl (fun K hK => ?_) AllReadyJ.nil
    go_simp
    refine hK.out _ _ (fun h => absurd h (by decide)) ?_
    clear hK K
    try simp only [Act.put, List.setIfInBounds_toArray, List.set_cons_zero, List.set_cons_succ]
    refine wpAnyJ_done (by kernel_rfl) ?_ _
    have hne := BB.out.2.2.2.2.2
    have b9i := (GB.out w9 iB G9.out.2.1 hne.2.2.2.1).trans BB.out.2.1
    have b9t := (GB.out w9 tB G9.out.2.1 hne.2.2.2.2.2).trans BB.out.1
    have b9p := (GB.out w9 pB G9.out.2.1 hne.2.2.2.2.1).trans BB.out.2.2.1
    have x9i : (w9.setCell ⟨tB, 0, none⟩ (.slice (some ⟨g9, 0, none⟩) (m + 1) c9)).heap[iB]? = some (.cells #[.int .i64 (m : Nat)] 3 (0, 0)) := (heap_setCell_other w9 ⟨tB, 0, none⟩ iB _ (by simp; exact hne.2.1)).trans b9i
    have ci9 : (w9.setCell ⟨tB, 0, none⟩ (.slice (some ⟨g9, 0, none⟩) (m + 1) c9)).cell? ⟨iB, 0, none⟩ = some (.int .i64 (m : Nat)) := (cell_of_row _ _ 0 _ 3 (0, 0) x9i).trans rfl
    have fi9 : (w9.setCell ⟨tB, 0, none⟩ (.slice (some ⟨g9, 0, none⟩) (m + 1) c9)).frozen? ⟨iB, 0, none⟩ = false := frozen_of_row _ _ 0 _ 3 x9i
    have X9 := hide (And.intro b9i (And.intro b9t (And.intro b9p x9i)))
    clear b9i b9t b9p x9i hne d1 d2 fz hHeld
    gi_wp2_with fail
    obtain ⟨t1, t2, t3, t4, t5, t6, t7⟩ := HALL.out
    obtain ⟨hsf, hz, hne, sf, hg, hd, hMu, hM, hp, bta⟩ := HSF.out
    obtain ⟨b9i, b9t, b9p, x9i⟩ := X9.out
    obtain ⟨ho9, hg9, ha9⟩ := G9.out
    have hmd := HM.out.1
    have f1 := heap_setCell_same (w9.setCell ⟨tB, 0, none⟩ (.slice (some ⟨g9, 0, none⟩) (m + 1) c9)) iB 0 _ 3 (.int .i64 ((m : Int) + 1)) x9i
    have f2 := heap_setCell_same w9 tB 0 _ 56 (.slice (some ⟨g9, 0, none⟩) (m + 1) c9) b9t
    have hK9 : KeepsOthers w3 w9 := ((KeepsOthers.drew w3).trans (KeepsOthers.alloc _ _)).trans (KeepsOthers.of_grownBy hg9 (fun j o e hj => by
      rcases LT3.out.2 with ⟨e', _⟩ | ⟨g', cap', cur', e', _, hh, _⟩
      · rw [e'] at e; cases e
      · rw [e'] at e
        obtain rfl : g' = j := by simpa [Value.ownBlock] using e
        have := (Below.heap_alloc w3.drew (.cells #[.slice y1 y2 y3] 22) g' (lt_of_block hh)).trans hh
        rw [this] at hj
        obtain rfl := (Option.some.inj hj).symm
        rfl))
    have hm9 : Mv w3 w9 (fun k => (Value.slice al m cl).ownBlock = some k) := ⟨hg9.os, hg9.tape, hg9.output, by have := hg9.size; simp at this; omega, fun k hk hs => (hg9.block k (by simp; omega) (fun e => hs e.symm)).trans (Below.heap_alloc w3.drew _ k hk)⟩
    have hmS : Mv w9 ((w9.setCell ⟨tB, 0, none⟩ (.slice (some ⟨g9, 0, none⟩) (m + 1) c9)).setCell ⟨iB, 0, none⟩ (.int .i64 ((m : Int) + 1))) (Bx iB pB tB) := ⟨rfl, rfl, rfl, by simp [World.setCell], fun k _ hs => (heap_setCell_other _ ⟨iB, 0, none⟩ k _ (fun e => hs (.inl e))).trans (heap_setCell_other _ ⟨tB, 0, none⟩ k _ (fun e => hs (.inr (.inr e))))⟩
    have hmv : Mv W ((w9.setCell ⟨tB, 0, none⟩ (.slice (some ⟨g9, 0, none⟩) (m + 1) c9)).setCell ⟨iB, 0, none⟩ (.int .i64 ((m : Int) + 1))) (fun k => Bx iB pB tB k ∨ (Value.slice al m cl).ownBlock = some k) :=
      (((BB.out.2.2.2.2.1).mono (S' := fun k => Bx iB pB tB k ∨ (Value.slice al m cl).ownBlock = some k) (fun k _ e => .inl (.inr (.inl e)))).trans hm9 (fun k _ e => .inr e)).trans hmS (fun k _ e => .inl e)
    refine ⟨(BB.out.2.2.2.1.trans hK9).trans ((KeepsOthers.setCell _ _ _).trans (KeepsOthers.setCell _ _ _)), trivial, ?_⟩
    refine Ti.next (lt := .slice al m cl) (lt' := .slice (some ⟨g9, 0, none⟩) (m + 1) c9) (M := M) (v := .slice y1 y2 y3) (us := us) t1 t5 t6 t7 hg hd hp hM hMu ⟨hne.2.2.2.1, hne.2.2.2.2.1, hne.2.2.2.2.2⟩ ?_ ?_ ?_ ?_ hmv
    · rw [← hmd]
      simpa using f1
    · rw [← HLL.out]
      exact (heap_setCell_other _ ⟨iB, 0, none⟩ pB _ (fun e => hne.1 e.symm)).trans ((heap_setCell_other _ ⟨tB, 0, none⟩ pB _ (fun e => hne.2.2.1 e)).trans b9p)
    · refine (heap_setCell_other _ ⟨iB, 0, none⟩ tB _ (fun e => hne.2.1 e.symm)).trans ?_
      simpa using f2
    · rw [← hmd]
      have hng : ∀ B : Nat, B < wS.heap.size → (Value.slice (some ⟨g9, 0, none⟩) (m + 1) c9).ownBlock ≠ some B := fun B hB e => by
        have := (ho9.lt B e).1
        omega
      exact ownsRow_setCell_other (ownsRow_setCell_other ho9 (hng tB hne.2.2.2.2.2) _) (hng iB hne.2.2.2.1) _


end Go.Proofs.Ytkohlhnkaklnpaa
