import Derived.Test.YtkohlhnkaklnpaaRdV
/-
  RecordReads: a round of Walk, the second time, whole.
-/
namespace Go.Proofs.Ytkohlhnkaklnpaa
open Go.RowKit Go.Shelf
attribute [local go_sem] Oper.semAt_some
set_option maxRecDepth 100000
/-- How many were told, in a round within. -/
def I2 (nB : Nat) (W2 : World) (dx : List (List UInt8)) (V : World) : Prop := V.heap[nB]? = some (.cells #[.int .i64 (dx.length : Nat)] 3 (0, 0)) ∧ Mv W2 V (fun k => k = nB)
theorem I2.own {nB : Nat} {W2 : World} : OwnFrom W2.heap.size (I2 nB W2) := by
  intro ds' W W' row ⟨h2, h7⟩ hg hr
  exact ⟨heap_kept h2 rfl hg (fun r e => (hr r e).2), h7.trans (S' := fun k => row = some k) ⟨hg.1, hg.2, hg.3, hg.size, fun k hk hs => hg.block k hk (fun e => hs e.symm)⟩ (fun k hk e => absurd (hr k e).1 (by omega))⟩
theorem Ti.on {b : List UInt8} {iB pB tB : Nat} {f : Value → Array Value} {wS W W' : World} {ds' : List (List UInt8)} (h : Ti b iB pB tB f wS ds' W) (hb : Below W.heap.size W W') : Ti b iB pB tB f wS ds' W' := Ti.own ds' W W' none h (grown_later hb) (fun r e => by cases e)
set_option maxHeartbeats 16000000 in
theorem body1 {w0 wS W : World} {stop : Int} {A : Act} {b d : List UInt8} {ds ds' : List (List UInt8)} {iB pB tB qB aB bW bx l n k KK M : Nat} {va vo v l0 : Value} {Zs : Nat → Prop} (hTT : Rc.Told b ds KK) (hT0 : (Rc.get (b.drop KK)).2 = 0)
    (hsf : Keeps Zs wS (Sf 1 stop b w0 qB aB bW bx va vo ds)) (hz : ∀ k, Zs k → ¬ Bx iB pB tB k) (hne : iB ≠ pB ∧ iB ≠ tB ∧ pB ≠ tB ∧ iB < wS.heap.size ∧ pB < wS.heap.size ∧ tB < wS.heap.size)
    (hqz : Zs qB ∧ True) (hI : Tm b iB pB tB (fun x => #[l0, x]) wS M ds' W) (ht : Rc.Told b ds' k) (hg : (Rc.get (b.drop k)).2 ≠ 0) (hd : d = (Rc.get (b.drop k)).1) (hp : Piece W M v d) (hM : wS.heap.size ≤ M)
    (hdl : d.length ≤ 100000000) (hbl : b.length ≤ 1048576)
    (hlp : ∃ r, W.heap[l]? = some (.loop r)) (hnv : NilOr vo)
    (hs : A.tmps.size = 464) (hdf : A.defers = []) (h3 : A.tmps.getD 3 undef = .pointer (some ⟨w0.heap.size, 0, none⟩)) (h4 : A.tmps.getD 4 undef = .pointer (some ⟨w0.heap.size + 1, 0, none⟩)) (h24 : A.tmps.getD 24 undef = .pointer (some ⟨aB, 0, none⟩)) (h38 : A.tmps.getD 38 undef = .pointer (some ⟨bW, 0, none⟩)) (h41 : A.tmps.getD 41 undef = .pointer (some ⟨tB, 0, none⟩))
    (h42 : A.tmps.getD 42 undef = .pointer (some ⟨qB, 0, none⟩)) (h43 : A.tmps.getD 43 undef = .pointer (some ⟨iB, 0, none⟩)) (h44 : A.tmps.getD 44 undef = .pointer (some ⟨pB, 0, none⟩)) (h45 : A.tmps.getD 45 undef = .int .i64 (k : Nat)) (h46 : A.tmps.getD 46 undef = v) :
    wBody.wpIn (Fence.wide.inRound l) n Try.prog (ownPostK (fun _ _ => True) (Ti b iB pB tB (fun x => #[l0, x]) wS) (fun _ _ _ => False) (ds' ++ [d]) W) A W := by
  have HT1 : Hid (∀ (W' : World) (A : Act), Below W.heap.size W W' → A.tmps.size = 464 → A.defers = [] → A.tmps.getD 3 undef = .pointer (some ⟨w0.heap.size, 0, none⟩) → A.tmps.getD 4 undef = .pointer (some ⟨w0.heap.size + 1, 0, none⟩) → A.tmps.getD 24 undef = .pointer (some ⟨aB, 0, none⟩) → A.tmps.getD 41 undef = .pointer (some ⟨tB, 0, none⟩) →
      A.tmps.getD 42 undef = .pointer (some ⟨qB, 0, none⟩) → A.tmps.getD 43 undef = .pointer (some ⟨iB, 0, none⟩) → A.tmps.getD 44 undef = .pointer (some ⟨pB, 0, none⟩) → A.tmps.getD 45 undef = .int .i64 (k : Nat) → A.tmps.getD 46 undef = v →
      (tailN 3 (unblock wBody)).wpIn (Fence.wide.inRound l) n Try.prog (Exit.inBlock 13 (ownPostK (fun _ _ => True) (Ti b iB pB tB (fun x => #[l0, x]) wS) (fun _ _ _ => False) (ds' ++ [d]) W)) A W') := fun W' A hb =>
    tail1 hTT hT0 hsf hz hne hqz (hI.on hb) ht hg hd (hp.later hb) hM hdl hbl (keeps_below hb)
  obtain ⟨s, eA, hsk⟩ := act_open A _ hs hdf
  rw [hsk] at h3 h4 h24 h38 h41 h42 h43 h44 h45 h46
  rw [eA, h3, h4, h24, h38, h41, h42, h43, h44, h45, h46]
  clear eA hsk h3 h4 h24 h38 h41 h42 h43 h44 h45 h46 hs hdf
  obtain ⟨r, hr⟩ := Rc.told_prefix ds' b ds KK k hTT hT0 ht hg
  rw [← hd] at hr
  have HI := hide hI.ti
  obtain ⟨kk, lt, us, t1, t2, t3, t4, t5, t6, t7, hMu⟩ := hI
  obtain rfl := Rc.told_uniq _ _ _ _ t1 ht
  have sf := (hsf.mv t7 hz).here
  obtain ⟨aa, ca, rfl, hca1, hca2⟩ := sf.2.2.1.form
  have hlen : ds'.length < ds.length := by rw [hr]; simp
  obtain ⟨ga, x1, x2, x3, rfl, cta, bta⟩ := sf.2.2.1.at ds'.length hlen
  have hdi : ds[ds'.length] = d := by simp [hr]
  rw [hdi] at bta
  have cbox := sf.2.2.1.box
  have hnx := listed_nil sf.2.2.1.2 ds'.length hlen rfl cta
  have cq : W.cell? ⟨qB, 0, none⟩ = some (.int .i64 1) := (cell_of_row _ _ 0 _ 3 (0, 0) sf.1).trans rfl
  have cs : W.cell? ⟨w0.heap.size, 0, none⟩ = some (.int .i64 stop) := (cell_of_row _ _ 0 _ 3 (0, 0) sf.2.1).trans rfl
  have ci : W.cell? ⟨iB, 0, none⟩ = some (.int .i64 (ds'.length : Nat)) := (cell_of_row _ _ 0 _ 3 (0, 0) t2).trans rfl
  have cp : W.cell? ⟨pB, 0, none⟩ = some (.int .i64 (kk : Nat)) := (cell_of_row _ _ 0 _ 3 (0, 0) t3).trans rfl
  have ct : W.cell? ⟨tB, 1, none⟩ = some lt := (cell_of_row _ _ 1 _ 56 (0, 0) t4).trans rfl
  have hcnt := hTT.count
  have hle := hTT.le
  obtain ⟨m, hm⟩ : ∃ m, m = ds'.length := ⟨_, rfl⟩
  obtain ⟨n1, hn1⟩ : ∃ n1, n1 = ds.length := ⟨_, rfl⟩
  rw [← hm] at ci cta hlen
  rw [← hn1] at cbox hlen hca1 hcnt
  have HM := hide (And.intro hm hn1)
  obtain ⟨y1, y2, y3, rfl⟩ := hp.shape
  have HALL := hide (And.intro t1 (And.intro t2 (And.intro t3 (And.intro t4 (And.intro t5 (And.intro t6 t7))))))
  have HSF := hide (And.intro hsf (And.intro hz (And.intro hne (And.intro sf (And.intro hg (And.intro hd (And.intro hMu (And.intro hM (And.intro hp bta)))))))))
  have cva := conv_bs bta
  have cvp := conv_bs hp.bs
  have cw : W.cell? ⟨bW, 0, none⟩ = some (.func (.func 32) #[] #[.pointer (some ⟨bx, 0, none⟩)]) := (cell_of_row _ _ 0 _ 45 (0, 0) sf.2.2.2.1).trans rfl
  have HTT := hide (And.intro hTT hT0)
  clear t1 t2 t3 t4 t5 t6 t7 hsf hz hne sf hr hdi hm hn1 bta hp hMu hd hg ht hTT hT0 hM
  have HQZ := hide hqz
  have HLP := hide hlp
  clear hlp hqz
  conv => arg 4; whnf
  refine wpIn_block ?_
  refine wpIn_seq_k (fun K1 hK1 => ?_)
  have HK1 := hide hK1
  clear hK1
  gi_wp2_with fail
  refine HK1.out _ _ ?_
  clear HK1 K1
  refine wpIn_seq_k (fun K2 hK2 => ?_)
  have HK2 := hide hK2
  clear hK2
  have lt1 : decide ((n1 : Int) ≤ (m : Int)) = false := decide_eq_false (by omega)
  have lt2 : ¬ ((n1 : Int) ≤ (m : Int)) := by omega
  have z1 : ((ByteArray.mk (List.toArray d)).toList == (ByteArray.mk (List.toArray d)).toList) = true := by simp
  have CV : Hid ((convert 22 9 (.slice x1 x2 x3)).run Try.prog W.drew = .ok (.string ⟨d.toArray⟩) W.drew ∧ (convert 22 9 (.slice y1 y2 y3)).run Try.prog W.drew = .ok (.string ⟨d.toArray⟩) W.drew) := ⟨conv_bs (on_bs HSF.out.2.2.2.2.2.2.2.2.2 ((Below.refl _ W).drew)), conv_bs (on_bs HSF.out.2.2.2.2.2.2.2.2.1.bs ((Below.refl _ W).drew))⟩
  gi_wp2_with fail
  refine round_late (J := fun _ => true) (S := fun V => (V.cell? ⟨iB, 0, none⟩ = some (.int .i64 (m : Nat)) ∧ V.cell? ⟨pB, 0, none⟩ = some (.int .i64 (kk : Nat)) ∧ V.cell? ⟨aB, 0, none⟩ = some (.slice (some ⟨ga, 0, none⟩) n1 ca) ∧ V.cell? ⟨ga, m, none⟩ = some (.slice x1 x2 x3)) ∧ (convert 22 9 (.slice x1 x2 x3)).run Try.prog V = .ok (.string ⟨d.toArray⟩) V ∧ (convert 22 9 (.slice y1 y2 y3)).run Try.prog V = .ok (.string ⟨d.toArray⟩) V) (by kernel_rfl) (by kernel_rfl) (fun ⟨_, _, h⟩ => h) ⟨⟨ci, cp, cbox, cta⟩, CV.out.1, CV.out.2⟩ (fun hHeld => ?_)
  refine' wpAnyJ_take (i := 0) (oi := { dst := some 344, op := Op.load 3 (Operand.tmp 43), type := 3, pos := "law.go:224", after := #[], guard := none }) (v := _) rfl (by kernel_rfl) (by kernel_rfl) (by kernel_rfl) (by kernel_rfl) (fun _ _ _ h => h) (Or.inl ⟨by rfl, ?hyP1⟩) (by assumption) ?reP1
  case hyP1 => (intro W hSw; (try dsimp only at hSw); go_simp; try with_reducible rfl)
  try simp only [Act.put, List.setIfInBounds_toArray, List.set_cons_zero, List.set_cons_succ]
  refine' wpAnyJ_take (i := 1) (oi := { dst := some 345, op := Op.load 34 (Operand.tmp 24), type := 34, pos := "law.go:224", after := #[], guard := none }) (v := _) rfl (by kernel_rfl) (by kernel_rfl) (by kernel_rfl) (by kernel_rfl) (fun _ _ _ h => h) (Or.inl ⟨by rfl, ?hyP2⟩) (by assumption) ?reP2
  case hyP2 => (intro W hSw; (try dsimp only at hSw); go_simp; try with_reducible rfl)
  try simp only [Act.put, List.setIfInBounds_toArray, List.set_cons_zero, List.set_cons_succ]
  refine' wpAnyJ_takeW (i := 2) (oi := { dst := some 346, op := Op.call { callee := Callee.builtin Builtin.len, args := #[Operand.tmp 345], argTypes := #[34] }, type := 3, pos := "law.go:224", after := #[{ on := 1, ground := Ground.data }], guard := none }) (v := _) rfl (by kernel_rfl) (by kernel_rfl) (by kernel_rfl) (fun _ _ _ h => h) (Or.inl ⟨by rfl, ?hyP3⟩) ?reP3
  case hyP3 => (intro W hSw; (try dsimp only at hSw); go_simp; try with_reducible rfl)
  try simp only [Act.put, List.setIfInBounds_toArray, List.set_cons_zero, List.set_cons_succ]
  refine' wpAnyJ_takeW (i := 3) (oi := { dst := some 347, op := Op.binOp BinOp.geq 3 (Operand.tmp 344) (Operand.tmp 346) 3, type := 4, pos := "law.go:224", after := #[{ on := 0, ground := Ground.data }, { on := 2, ground := Ground.data }], guard := none }) (v := .bool false) rfl (by kernel_rfl) (by kernel_rfl) (by kernel_rfl) (fun _ _ _ h => h) (Or.inl ⟨by rfl, ?hyP4⟩) ?reP4
  case hyP4 => (intro W hSw; (try dsimp only at hSw); go_simp; try with_reducible rfl)
  try simp only [Act.put, List.setIfInBounds_toArray, List.set_cons_zero, List.set_cons_succ]
  refine' wpAnyJ_takeW (i := 4) (oi := { dst := some 348, op := Op.move (Operand.tmp 347), type := 4, pos := "law.go:224", after := #[{ on := 3, ground := Ground.data }], guard := none }) (v := .bool false) rfl (by kernel_rfl) (by kernel_rfl) (by kernel_rfl) (fun _ _ _ h => h) (Or.inl ⟨by rfl, ?hyP5⟩) ?reP5
  case hyP5 => (intro W hSw; (try dsimp only at hSw); go_simp; try with_reducible rfl)
  try simp only [Act.put, List.setIfInBounds_toArray, List.set_cons_zero, List.set_cons_succ]
  refine' wpAnyJ_takeW (i := 5) (oi := { dst := some 349, op := Op.move (Operand.tmp 45), type := 3, pos := "law.go:224", after := #[{ on := 4, ground := Ground.guard }], guard := some (4, false) }) (v := _) rfl (by kernel_rfl) (by kernel_rfl) (by kernel_rfl) (fun _ _ _ h => h) (Or.inl ⟨by rfl, ?hyP6⟩) ?reP6
  case hyP6 => (intro W hSw; (try dsimp only at hSw); go_simp; try with_reducible rfl)
  try simp only [Act.put, List.setIfInBounds_toArray, List.set_cons_zero, List.set_cons_succ]
  refine' wpAnyJ_take (i := 6) (oi := { dst := some 350, op := Op.load 3 (Operand.tmp 44), type := 3, pos := "law.go:224", after := #[{ on := 4, ground := Ground.guard }], guard := some (4, false) }) (v := _) rfl (by kernel_rfl) (by kernel_rfl) (by kernel_rfl) (by kernel_rfl) (fun _ _ _ h => h) (Or.inl ⟨by rfl, ?hyP7⟩) (by assumption) ?reP7
  case hyP7 => (intro W hSw; (try dsimp only at hSw); go_simp; try with_reducible rfl)
  try simp only [Act.put, List.setIfInBounds_toArray, List.set_cons_zero, List.set_cons_succ]
  refine' wpAnyJ_takeW (i := 7) (oi := { dst := some 351, op := Op.binOp BinOp.neq 3 (Operand.tmp 349) (Operand.tmp 350) 3, type := 4, pos := "law.go:224", after := #[{ on := 5, ground := Ground.data }, { on := 6, ground := Ground.data }, { on := 4, ground := Ground.guard }], guard := some (4, false) }) (v := .bool false) rfl (by kernel_rfl) (by kernel_rfl) (by kernel_rfl) (fun _ _ _ h => h) (Or.inl ⟨by rfl, ?hyP8⟩) ?reP8
  case hyP8 => (intro W hSw; (try dsimp only at hSw); go_simp; try with_reducible rfl)
  try simp only [Act.put, List.setIfInBounds_toArray, List.set_cons_zero, List.set_cons_succ]
  refine' wpAnyJ_takeW (i := 8) (oi := { dst := some 352, op := Op.pick (Operand.tmp 348) (Operand.const (Value.bool true)) (Operand.tmp 351), type := 4, pos := "law.go:224", after := #[{ on := 4, ground := Ground.data }, { on := 7, ground := Ground.data }], guard := none }) (v := .bool false) rfl (by kernel_rfl) (by kernel_rfl) (by kernel_rfl) (fun _ _ _ h => h) (Or.inl ⟨by rfl, ?hyP9⟩) ?reP9
  case hyP9 => (intro W hSw; (try dsimp only at hSw); go_simp; try with_reducible rfl)
  try simp only [Act.put, List.setIfInBounds_toArray, List.set_cons_zero, List.set_cons_succ]
  refine' wpAnyJ_takeW (i := 9) (oi := { dst := some 353, op := Op.move (Operand.tmp 352), type := 4, pos := "law.go:224", after := #[{ on := 8, ground := Ground.data }, { on := 4, ground := Ground.chain }], guard := none }) (v := .bool false) rfl (by kernel_rfl) (by kernel_rfl) (by kernel_rfl) (fun _ _ _ h => h) (Or.inl ⟨by rfl, ?hyP10⟩) ?reP10
  case hyP10 => (intro W hSw; (try dsimp only at hSw); go_simp; try with_reducible rfl)
  try simp only [Act.put, List.setIfInBounds_toArray, List.set_cons_zero, List.set_cons_succ]
  refine' wpAnyJ_takeW (i := 10) (oi := { dst := some 354, op := Op.move (Operand.tmp 46), type := 22, pos := "law.go:224", after := #[{ on := 9, ground := Ground.guard }], guard := some (9, false) }) (v := _) rfl (by kernel_rfl) (by kernel_rfl) (by kernel_rfl) (fun _ _ _ h => h) (Or.inl ⟨by rfl, ?hyP11⟩) ?reP11
  case hyP11 => (intro W hSw; (try dsimp only at hSw); go_simp; try with_reducible rfl)
  try simp only [Act.put, List.setIfInBounds_toArray, List.set_cons_zero, List.set_cons_succ]
  refine' wpAnyJ_take (i := 11) (oi := { dst := some 355, op := Op.convert 22 9 (Operand.tmp 354), type := 9, pos := "law.go:224", after := #[{ on := 10, ground := Ground.data }, { on := 9, ground := Ground.guard }], guard := some (9, false) }) (v := _) rfl (by kernel_rfl) (by kernel_rfl) (by kernel_rfl) (by kernel_rfl) (fun _ _ _ h => h) (Or.inl ⟨by rfl, ?hyP12⟩) (by assumption) ?reP12
  case hyP12 => (intro W hSw; (try dsimp only at hSw); go_simp; try with_reducible rfl)
  try simp only [Act.put, List.setIfInBounds_toArray, List.set_cons_zero, List.set_cons_succ]
  refine' wpAnyJ_take (i := 12) (oi := { dst := some 356, op := Op.load 34 (Operand.tmp 24), type := 34, pos := "law.go:224", after := #[{ on := 9, ground := Ground.guard }], guard := some (9, false) }) (v := _) rfl (by kernel_rfl) (by kernel_rfl) (by kernel_rfl) (by kernel_rfl) (fun _ _ _ h => h) (Or.inl ⟨by rfl, ?hyP13⟩) (by assumption) ?reP13
  case hyP13 => (intro W hSw; (try dsimp only at hSw); go_simp; try with_reducible rfl)
  try simp only [Act.put, List.setIfInBounds_toArray, List.set_cons_zero, List.set_cons_succ]
  refine' wpAnyJ_take (i := 13) (oi := { dst := some 357, op := Op.load 3 (Operand.tmp 43), type := 3, pos := "law.go:224", after := #[{ on := 9, ground := Ground.guard }], guard := some (9, false) }) (v := _) rfl (by kernel_rfl) (by kernel_rfl) (by kernel_rfl) (by kernel_rfl) (fun _ _ _ h => h) (Or.inl ⟨by rfl, ?hyP14⟩) (by assumption) ?reP14
  case hyP14 => (intro W hSw; (try dsimp only at hSw); go_simp; try with_reducible rfl)
  try simp only [Act.put, List.setIfInBounds_toArray, List.set_cons_zero, List.set_cons_succ]
  refine' wpAnyJ_takeW (i := 14) (oi := { dst := some 358, op := Op.indexAddr 34 (Operand.tmp 356) (Operand.tmp 357), type := 0, pos := "law.go:224", after := #[{ on := 12, ground := Ground.data }, { on := 13, ground := Ground.data }, { on := 9, ground := Ground.guard }], guard := some (9, false) }) (v := _) rfl (by kernel_rfl) (by kernel_rfl) (by kernel_rfl) (fun _ _ _ h => h) (Or.inl ⟨by rfl, ?hyP15⟩) ?reP15
  case hyP15 => (intro W hSw; (try dsimp only at hSw); go_simp; try with_reducible rfl)
  try simp only [Act.put, List.setIfInBounds_toArray, List.set_cons_zero, List.set_cons_succ]
  refine' wpAnyJ_take (i := 15) (oi := { dst := some 359, op := Op.load 22 (Operand.tmp 358), type := 22, pos := "law.go:224", after := #[{ on := 14, ground := Ground.data }, { on := 9, ground := Ground.guard }], guard := some (9, false) }) (v := _) rfl (by kernel_rfl) (by kernel_rfl) (by kernel_rfl) (by kernel_rfl) (fun _ _ _ h => h) (Or.inl ⟨by rfl, ?hyP16⟩) (by assumption) ?reP16
  case hyP16 => (intro W hSw; (try dsimp only at hSw); go_simp; try with_reducible rfl)
  try simp only [Act.put, List.setIfInBounds_toArray, List.set_cons_zero, List.set_cons_succ]
  refine' wpAnyJ_take (i := 16) (oi := { dst := some 360, op := Op.convert 22 9 (Operand.tmp 359), type := 9, pos := "law.go:224", after := #[{ on := 15, ground := Ground.data }, { on := 9, ground := Ground.guard }], guard := some (9, false) }) (v := _) rfl (by kernel_rfl) (by kernel_rfl) (by kernel_rfl) (by kernel_rfl) (fun _ _ _ h => h) (Or.inl ⟨by rfl, ?hyP17⟩) (by assumption) ?reP17
  case hyP17 => (intro W hSw; (try dsimp only at hSw); go_simp; try with_reducible rfl)
  try simp only [Act.put, List.setIfInBounds_toArray, List.set_cons_zero, List.set_cons_succ]
  refine' wpAnyJ_takeW (i := 17) (oi := { dst := some 361, op := Op.binOp BinOp.neq 9 (Operand.tmp 355) (Operand.tmp 360) 9, type := 4, pos := "law.go:224", after := #[{ on := 11, ground := Ground.data }, { on := 16, ground := Ground.data }, { on := 9, ground := Ground.guard }], guard := some (9, false) }) (v := .bool false) rfl (by kernel_rfl) (by kernel_rfl) (by kernel_rfl) (fun _ _ _ h => h) (Or.inl ⟨by rfl, ?hyP18⟩) ?reP18
  case hyP18 => (intro W hSw; (try dsimp only at hSw); go_simp; try with_reducible rfl)
  try simp only [Act.put, List.setIfInBounds_toArray, List.set_cons_zero, List.set_cons_succ]
  refine' wpAnyJ_takeW (i := 18) (oi := { dst := some 362, op := Op.pick (Operand.tmp 353) (Operand.const (Value.bool true)) (Operand.tmp 361), type := 4, pos := "law.go:224", after := #[{ on := 9, ground := Ground.data }, { on := 17, ground := Ground.data }], guard := none }) (v := .bool false) rfl (by kernel_rfl) (by kernel_rfl) (by kernel_rfl) (fun _ _ _ h => h) (Or.inl ⟨by rfl, ?hyP19⟩) ?reP19
  case hyP19 => (intro W hSw; (try dsimp only at hSw); go_simp; try with_reducible rfl)
  try simp only [Act.put, List.setIfInBounds_toArray, List.set_cons_zero, List.set_cons_succ]
  refine wpAnyJ_done (by kernel_rfl) ?_ _
  gi_wp2_with fail
  refine HK2.out _ _ ?_
  clear HK2 K2 CV hHeld lt1 lt2 z1
  refine wpIn_seq_k (fun K3 hK3 => ?_)
  have HK3 := hide hK3
  clear hK3
  by_cases hstop : (m : Int) = stop
  · have e0 : ((m : Int) == stop) = true := by rw [beq_iff_eq]; exact hstop
    obtain ⟨rr, hrr⟩ := HLP.out
    have cwa : ∀ o, (W.alloc o).cell? ⟨bW, 0, none⟩ = some (.func (.func 32) #[] #[.pointer (some ⟨bx, 0, none⟩)]) := fun o => (World.cell?_of_block (Below.heap_alloc W o bW (World.block_lt_of_cell? _ _ cw))).trans cw
    have hW2 : Below W.heap.size W ((W.alloc (.cells #[.int .i64 0] 3)).drew) := ((Below.refl _ W).alloc (Nat.le_refl _) _).drew
    have hnB : ((W.alloc (.cells #[.int .i64 0] 3)).drew).heap[W.heap.size]? = some (.cells #[.int .i64 0] 3 (0, 0)) := Array.getElem?_push_size
    have hsz2 : ((W.alloc (.cells #[.int .i64 0] 3)).drew).heap.size = W.heap.size + 1 := World.size_alloc _ _
    have HW2 := hide (And.intro hW2 (And.intro hnB hsz2))
    have HRR := hide hrr
    clear hW2 hnB hsz2 hrr
    gi_wp2_with fail
    generalize (W.alloc (.cells #[.int .i64 0] 3)).drew = W2 at *
    obtain ⟨hW2, hnB, hsz2⟩ := HW2.out
    have sf := HSF.out.2.2.2.1
    have hbx2 : W2.heap[bx]? = some (.cells #[vo] 22 (0, 0)) := (hW2.block bx (lt_of_block sf.2.2.2.2.1)).trans sf.2.2.2.2.1
    have hov2 : W2.ownsRow 0 5 1 vo b.length (Lib.byteCells b) := own_on sf.2.2.2.2.2 (fun k e => hW2.block k (sf.2.2.2.2.2.lt k e).2)
    have hll : W2.heap[l]? = some (.loop rr) := (hW2.block l (lt_of_block HRR.out)).trans HRR.out
    have hbl2 := lt_of_block sf.2.2.2.2.1
    have hvo : ∀ dx V, I2 W.heap.size W2 dx V → Bs V vo b ∧ V.cell? ⟨bx, 0, none⟩ = some vo := fun dx V h => by
      have hm := h.2
      refine ⟨own_bs (own_on hov2 (fun k e => hm.2.2.2.2 k (hov2.lt k e).2 (fun e' => by have := (sf.2.2.2.2.2.lt k e).2; omega))), ?_⟩
      rw [cell_of_row V bx 0 _ 22 (0, 0) ((hm.2.2.2.2 bx (lt_of_block hbx2) (fun e' => by omega)).trans hbx2)]
      rfl
    have HBL := hide (And.intro hbl2 sf)
    clear sf hbx2 hov2 cwa cw
    apply range_toldN hll bx vo b rfl rfl hnv (I2 W.heap.size W2) (fun _ _ _ => False) hvo I2.own (fun _ _ _ _ _ h _ _ => h) ⟨by simpa using hnB, Mv.refl _ _⟩
    case hassign =>
      intro l2 k2 v2 V K hK
      gi_wp2
      exact hK
    case hbody =>
      intro l2 dx k2 v2 V1 V hl2 hnc hi hgr ht2 _ _
      have hiV := I2.own dx V1 V (some l2) hi hgr (fun r e => by cases e; exact ⟨hl2, hnc⟩)
      have cn : V.cell? ⟨W.heap.size, 0, none⟩ = some (.int .i64 (dx.length : Nat)) := (cell_of_row _ _ 0 _ 3 (0, 0) hiV.1).trans rfl
      have fn : V.frozen? ⟨W.heap.size, 0, none⟩ = false := frozen_of_row _ _ 0 _ 3 hiV.1
      have HV := hide hiV
      have hdx : dx.length ≤ 1000000 := by have h1 := ht2.count; have h2 := ht2.le; omega
      clear hiV hi hgr hnc hl2
      gi_wp2_with fail
      refine ⟨KeepsOthers.setCell _ _ _, trivial, ?_, HV.out.2.trans (S' := fun k => k = W.heap.size) ⟨rfl, rfl, rfl, by simp [World.setCell], fun k _ hs => heap_setCell_other _ ⟨W.heap.size, 0, none⟩ k _ hs⟩ (fun k _ e => e)⟩
      have := heap_setCell_same V W.heap.size 0 _ 3 (.int .i64 ((dx.length : Int) + 1)) HV.out.1
      rw [List.length_append]
      simpa using this
    case hdone =>
      intro dx k2 V ht2 hz2 hi2
      obtain ⟨rfl, _⟩ := Rc.told_same _ _ _ _ _ ht2 hz2 HTT.out.1 HTT.out.2
      have hbV : Below W.heap.size W V := ⟨hi2.2.1.trans hW2.os, hi2.2.2.1.trans hW2.tape, hi2.2.2.2.1.trans hW2.output, Nat.le_trans hW2.size hi2.2.2.2.2.1, fun k hk => (hi2.2.2.2.2.2 k (by have := hW2.size; omega) (fun e => by omega)).trans (hW2.block k hk)⟩
      have cn : V.cell? ⟨W.heap.size, 0, none⟩ = some (.int .i64 (n1 : Nat)) := by
        rw [HM.out.2]
        exact (cell_of_row _ _ 0 _ 3 (0, 0) hi2.1).trans rfl
      have cb : V.cell? ⟨aB, 0, none⟩ = some (.slice (some ⟨ga, 0, none⟩) n1 ca) := (hbV.cell (p := ⟨aB, 0, none⟩) (World.block_lt_of_cell? _ _ cbox)).trans cbox
      have HBV := hide hbV
      clear hbV hi2 ht2 hz2
      gi_wp2_with fail
      refine HK3.out _ _ ?_
      exact HT1.out _ _ HBV.out rfl rfl rfl rfl rfl rfl rfl rfl rfl rfl rfl
    case hstop =>
      intro c dx V h
      exact h.elim
  · have e0 : ((m : Int) == stop) = false := by rw [beq_eq_false_iff_ne]; exact hstop
    gi_wp2_with fail
    refine HK3.out _ _ ?_
    exact HT1.out _ _ ((Below.refl _ W).drew) rfl rfl rfl rfl rfl rfl rfl rfl rfl rfl rfl
end Go.Proofs.Ytkohlhnkaklnpaa
