import Derived.Test.YtkohlhnkaklnpaaRm2
import Derived.Test.YtkohlhnkaklnpaaNilF
import Derived.Laws.EntriesVeiled
/-
  RecordReads: a round of Walk, the second time, whole.
-/
namespace Go.Proofs.Ytkohlhnkaklnpaa
open Go.RowKit Go.Shelf
attribute [local go_sem] Oper.semAt_some
set_option maxRecDepth 100000
/-- How many were told, in a round within. -/
def I2 (nB : Nat) (W2 : World) (dx : List (List UInt8)) (V : World) : Prop := V.heap[nB]? = some (.cells #[.int .i64 (dx.length : Nat)] 3 (0, 0)) ∧ Mv W2 V (fun k => k = nB)
theorem I2.own {nB : Nat} {W2 : World} : OwnFrom W2.heap.size (I2 nB W2) := by
  intro ds' W W' row ⟨h2, h7⟩ hg hr
  exact ⟨heap_kept h2 rfl hg (fun r e => (hr r e).2), h7.trans (S' := fun k => row = some k) ⟨hg.1, hg.2, hg.3, hg.size, fun k hk hs => hg.block k hk (fun e => hs e.symm)⟩ (fun k hk e => absurd (hr k e).1 (by omega))⟩
theorem Ti.on {b : List UInt8} {iB pB tB : Nat} {f : Value → Array Value} {wS W W' : World} {ds' : List (List UInt8)} (h : Ti b iB pB tB f wS ds' W) (hb : Below W.heap.size W W') : Ti b iB pB tB f wS ds' W' := Ti.own ds' W W' none h (grown_later hb) (fun r e => by cases e)
set_option maxHeartbeats 16000000 in
theorem body1 {w0 wS W : World} {stop : Int} {A : Act} {b d : List UInt8} {ds ds' : List (List UInt8)} {iB pB tB qB aB bW bx l n k KK M : Nat} {va vo v l0 : Value} {Zs : Nat → Prop} (hTT : Rc.Told b ds KK) (hT0 : (Rc.get (b.drop KK)).2 = 0)
    (hsf : Keeps Zs wS (Sf 1 stop b w0 qB aB bW bx va vo ds)) (hz : ∀ k, Zs k → ¬ Bx iB pB tB k) (hne : iB ≠ pB ∧ iB ≠ tB ∧ pB ≠ tB ∧ iB < wS.heap.size ∧ pB < wS.heap.size ∧ tB < wS.heap.size)
    (hqz : Zs qB ∧ True) (hI : Tm b iB pB tB (fun x => #[l0, x]) wS M ds' W) (ht : Rc.Told b ds' k) (hg : (Rc.get (b.drop k)).2 ≠ 0) (hd : d = (Rc.get (b.drop k)).1) (hp : Piece W M v d) (hM : wS.heap.size ≤ M)
    (hdl : d.length ≤ 100000000) (hbl : b.length ≤ 1048576)
    (hlp : ∃ r, W.heap[l]? = some (.loop r)) (hnv : NilOr vo)
    (hs : A.tmps.size = 464) (hdf : A.defers = []) (h3 : A.tmps.getD 3 undef = .pointer (some ⟨w0.heap.size, 0, none⟩)) (h4 : A.tmps.getD 4 undef = .pointer (some ⟨w0.heap.size + 1, 0, none⟩)) (h24 : A.tmps.getD 24 undef = .pointer (some ⟨aB, 0, none⟩)) (h38 : A.tmps.getD 38 undef = .pointer (some ⟨bW, 0, none⟩)) (h41 : A.tmps.getD 41 undef = .pointer (some ⟨tB, 0, none⟩))
    (h42 : A.tmps.getD 42 undef = .pointer (some ⟨qB, 0, none⟩)) (h43 : A.tmps.getD 43 undef = .pointer (some ⟨iB, 0, none⟩)) (h44 : A.tmps.getD 44 undef = .pointer (some ⟨pB, 0, none⟩)) (h45 : A.tmps.getD 45 undef = .int .i64 (k : Nat)) (h46 : A.tmps.getD 46 undef = v) :
    wBody.wpIn (Fence.wide.inRound l) n Try.prog (ownPostK (fun _ _ => True) (Ti b iB pB tB (fun x => #[l0, x]) wS) (fun _ _ _ => False) (ds' ++ [d]) W) A W := by
  have HT1 : Hid (∀ (W' : World) (A : Act), Below W.heap.size W W' → A.tmps.size = 464 → A.defers = [] → A.tmps.getD 3 undef = .pointer (some ⟨w0.heap.size, 0, none⟩) → A.tmps.getD 4 undef = .pointer (some ⟨w0.heap.size + 1, 0, none⟩) → A.tmps.getD 24 undef = .pointer (some ⟨aB, 0, none⟩) → A.tmps.getD 41 undef = .pointer (some ⟨tB, 0, none⟩) →
      A.tmps.getD 42 undef = .pointer (some ⟨qB, 0, none⟩) → A.tmps.getD 43 undef = .pointer (some ⟨iB, 0, none⟩) → A.tmps.getD 44 undef = .pointer (some ⟨pB, 0, none⟩) → A.tmps.getD 45 undef = .int .i64 (k : Nat) → A.tmps.getD 46 undef = v →
      (tailN 3 (unblock wBody)).wpIn (Fence.wide.inRound l) n Try.prog (Exit.inBlock 13 (ownPostK (fun _ _ => True) (Ti b iB pB tB (fun x => #[l0, x]) wS) (fun _ _ _ => False) (ds' ++ [d]) W)) A W') := fun W' A hb =>
    tail1 hTT hT0 hsf hz hne hqz (hI.on hb) ht hg hd (hp.later hb) hM hdl hbl (keeps_below hb)
  obtain ⟨s, eA, hsk⟩ := act_open A _ hs hdf
  rw [hsk] at h3 h4 h24 h38 h41 h42 h43 h44 h45 h46
  rw [eA, h3, h4, h24, h38, h41, h42, h43, h44, h45, h46]
  clear eA hsk h3 h4 h24 h38 h41 h42 h43 h44 h45 h46 hs hdf
  obtain ⟨r, hr⟩ := Rc.told_prefix ds' b ds KK k hTT hT0 ht hg
  rw [← hd] at hr
  have HI := hide hI.ti
  obtain ⟨kk, lt, us, t1, t2, t3, t4, t5, t6, t7, hMu⟩ := hI
  obtain rfl := Rc.told_uniq _ _ _ _ t1 ht
  have sf := (hsf.mv t7 hz).here
  obtain ⟨aa, ca, rfl, hca1, hca2⟩ := sf.2.2.1.form
  have hlen : ds'.length < ds.length := by rw [hr]; simp
  obtain ⟨ga, x1, x2, x3, rfl, cta, bta⟩ := sf.2.2.1.at ds'.length hlen
  have hdi : ds[ds'.length] = d := by simp [hr]
  rw [hdi] at bta
  have cbox := sf.2.2.1.box
  have hnx := listed_nil sf.2.2.1.2 ds'.length hlen rfl cta
  have cq : W.cell? ⟨qB, 0, none⟩ = some (.int .i64 1) := (cell_of_row _ _ 0 _ 3 (0, 0) sf.1).trans rfl
  have cs : W.cell? ⟨w0.heap.size, 0, none⟩ = some (.int .i64 stop) := (cell_of_row _ _ 0 _ 3 (0, 0) sf.2.1).trans rfl
  have ci : W.cell? ⟨iB, 0, none⟩ = some (.int .i64 (ds'.length : Nat)) := (cell_of_row _ _ 0 _ 3 (0, 0) t2).trans rfl
  have cp : W.cell? ⟨pB, 0, none⟩ = some (.int .i64 (kk : Nat)) := (cell_of_row _ _ 0 _ 3 (0, 0) t3).trans rfl
  have ct : W.cell? ⟨tB, 1, none⟩ = some lt := (cell_of_row _ _ 1 _ 56 (0, 0) t4).trans rfl
  have hcnt := hTT.count
  have hle := hTT.le
  obtain ⟨m, hm⟩ : ∃ m, m = ds'.length := ⟨_, rfl⟩
  obtain ⟨n1, hn1⟩ : ∃ n1, n1 = ds.length := ⟨_, rfl⟩
  rw [← hm] at ci cta hlen
  rw [← hn1] at cbox hlen hca1 hcnt
  have HM := hide (And.intro hm hn1)
  obtain ⟨y1, y2, y3, rfl⟩ := hp.shape
  have HALL := hide (And.intro t1 (And.intro t2 (And.intro t3 (And.intro t4 (And.intro t5 (And.intro t6 t7))))))
  have HSF := hide (And.intro hsf (And.intro hz (And.intro hne (And.intro sf (And.intro hg (And.intro hd (And.intro hMu (And.intro hM (And.intro hp bta)))))))))
  have cva := conv_bs bta
  have cvp := conv_bs hp.bs
  have cw : W.cell? ⟨bW, 0, none⟩ = some (.func (.func 32) #[] #[.pointer (some ⟨bx, 0, none⟩)]) := (cell_of_row _ _ 0 _ 45 (0, 0) sf.2.2.2.1).trans rfl
  have HTT := hide (And.intro hTT hT0)
  clear t1 t2 t3 t4 t5 t6 t7 hsf hz hne sf hr hdi hm hn1 bta hp hMu hd hg ht hTT hT0 hM
  have HQZ := hide hqz
  have HLP := hide hlp
  clear hlp hqz
  conv => arg 4; whnf
  refine wpIn_block ?_
  refine wpIn_seq_k (fun K1 hK1 => ?_)
  have HK1 := hide hK1
  clear hK1
  gi_wp2_with fail
  refine HK1.out _ _ ?_
  clear HK1 K1
  refine wpIn_seq_k (fun K2 hK2 => ?_)
  have HK2 := hide hK2
  clear hK2
  have lt1 : decide ((n1 : Int) ≤ (m : Int)) = false := decide_eq_false (by omega)
  have lt2 : ¬ ((n1 : Int) ≤ (m : Int)) := by omega
  have z1 : ((ByteArray.mk (List.toArray d)).toList == (ByteArray.mk (List.toArray d)).toList) = true := by simp
  have CV : Hid ((convert 22 9 (.slice x1 x2 x3)).run Try.prog W.drew = .ok (.string ⟨d.toArray⟩) W.drew ∧ (convert 22 9 (.slice y1 y2 y3)).run Try.prog W.drew = .ok (.string ⟨d.toArray⟩) W.drew) := ⟨conv_bs (on_bs HSF.out.2.2.2.2.2.2.2.2.2 ((Below.refl _ W).drew)), conv_bs (on_bs HSF.out.2.2.2.2.2.2.2.2.1.bs ((Below.refl _ W).drew))⟩
  gi_wp2_with fail
  refine round_late (J := fun _ => true) (S := fun V => (V.cell? ⟨iB, 0, none⟩ = some (.int .i64 (m : Nat)) ∧ V.cell? ⟨pB, 0, none⟩ = some (.int .i64 (kk : Nat)) ∧ V.cell? ⟨aB, 0, none⟩ = some (.slice (some ⟨ga, 0, none⟩) n1 ca) ∧ V.cell? ⟨ga, m, none⟩ = some (.slice x1 x2 x3)) ∧ (convert 22 9 (.slice x1 x2 x3)).run Try.prog V = .ok (.string ⟨d.toArray⟩) V ∧ (convert 22 9 (.slice y1 y2 y3)).run Try.prog V = .ok (.string ⟨d.toArray⟩) V) (by kernel_rfl) (by kernel_rfl) (fun ⟨_, _, h⟩ => h) ⟨⟨ci, cp, cbox, cta⟩, CV.out.1, CV.out.2⟩ (fun hHeld => ?_)
  refine' wpAnyJ_take (i := 0) (oi := { dst := some 344, op := Op.load 3 (Operand.tmp 43), type := 3, pos := "law.go:224", after := #[], guard := none }) (v := _) rfl (by kernel_rfl) (by kernel_rfl) (by kernel_rfl) (by kernel_rfl) (fun _ _ _ h => h) (Or.inl ⟨by rfl, ?hyP1⟩) (by assumption) ?reP1
  case hyP1 => (intro W hSw; (try dsimp only at hSw); go_simp; try with_reducible rfl)
  try simp only [Act.put, List.setIfInBounds_toArray, List.set_cons_zero, List.set_cons_succ]
  refine' wpAnyJ_take (i := 1) (oi := { dst := some 345, op := Op.load 34 (Operand.tmp 24), type := 34, pos := "law.go:224", after := #[], guard := none }) (v := _) rfl (by kernel_rfl) (by kernel_rfl) (by kernel_rfl) (by kernel_rfl) (fun _ _ _ h => h) (Or.inl ⟨by rfl, ?hyP2⟩) (by assumption) ?reP2
  case hyP2 => (intro W hSw; (try dsimp only at hSw); go_simp; try with_reducible rfl)
  try simp only [Act.put, List.setIfInBounds_toArray, List.set_cons_zero, List.set_cons_succ]
  refine' wpAnyJ_takeW (i := 2) (oi := { dst := some 346, op := Op.call { callee := Callee.builtin Builtin.len, args := #[Operand.tmp 345], argTypes := #[34] }, type := 3, pos := "law.go:224", after := #[{ on := 1, ground := Ground.data }], guard := none }) (v := _) rfl (by kernel_rfl) (by kernel_rfl) (by kernel_rfl) (fun _ _ _ h => h) (Or.inl ⟨by rfl, ?hyP3⟩) ?reP3
  case hyP3 => (intro W hSw; (try dsimp only at hSw); go_simp; try with_reducible rfl)
  try simp only [Act.put, List.setIfInBounds_toArray, List.set_cons_zero, List.set_cons_succ]
  refine' wpAnyJ_takeW (i := 3) (oi := { dst := some 347, op := Op.binOp BinOp.geq 3 (Operand.tmp 344) (Operand.tmp 346) 3, type := 4, pos := "law.go:224", after := #[{ on := 0, ground := Ground.data }, { on := 2, ground := Ground.data }], guard := none }) (v := .bool false) rfl (by kernel_rfl) (by kernel_rfl) (by kernel_rfl) (fun _ _ _ h => h) (Or.inl ⟨by rfl, ?hyP4⟩) ?reP4
  case hyP4 => (intro W hSw; (try dsimp only at hSw); go_simp; try with_reducible rfl)
  try simp only [Act.put, List.setIfInBounds_toArray, List.set_cons_zero, List.set_cons_succ]
  refine' wpAnyJ_takeW (i := 4) (oi := { dst := some 348, op := Op.move (Operand.tmp 347), type := 4, pos := "law.go:224", after := #[{ on := 3, ground := Ground.data }], guard := none }) (v := .bool false) rfl (by kernel_rfl) (by kernel_rfl) (by kernel_rfl) (fun _ _ _ h => h) (Or.inl ⟨by rfl, ?hyP5⟩) ?reP5
  case hyP5 => (intro W hSw; (try dsimp only at hSw); go_simp; try with_reducible rfl)
  try simp only [Act.put, List.setIfInBounds_toArray, List.set_cons_zero, List.set_cons_succ]
  refine' wpAnyJ_takeW (i := 5) (oi := { dst := some 349, op := Op.move (Operand.tmp 45), type := 3, pos := "law.go:224", after := #[{ on := 4, ground := Ground.guard }], guard := some (4, false) }) (v := _) rfl (by kernel_rfl) (by kernel_rfl) (by kernel_rfl) (fun _ _ _ h => h) (Or.inl ⟨by rfl, ?hyP6⟩) ?reP6
  case hyP6 => (intro W hSw; (try dsimp only at hSw); go_simp; try with_reducible rfl)
  try simp only [Act.put, List.setIfInBounds_toArray, List.set_cons_zero, List.set_cons_succ]
  refine' wpAnyJ_take (i := 6) (oi := { dst := some 350, op := Op.load 3 (Operand.tmp 44), type := 3, pos := "law.go:224", after := #[{ on := 4, ground := Ground.guard }], guard := some (4, false) }) (v := _) rfl (by kernel_rfl) (by kernel_rfl) (by kernel_rfl) (by kernel_rfl) (fun _ _ _ h => h) (Or.inl ⟨by rfl, ?hyP7⟩) (by assumption) ?reP7
  case hyP7 => (intro W hSw; (try dsimp only at hSw); go_simp; try with_reducible rfl)
  try simp only [Act.put, List.setIfInBounds_toArray, List.set_cons_zero, List.set_cons_succ]
  refine' wpAnyJ_takeW (i := 7) (oi := { dst := some 351, op := Op.binOp BinOp.neq 3 (Operand.tmp 349) (Operand.tmp 350) 3, type := 4, pos := "law.go:224", after := #[{ on := 5, ground := Ground.data }, { on := 6, ground := Ground.data }, { on := 4, ground := Ground.guard }], guard := some (4, false) }) (v := .bool false) rfl (by kernel_rfl) (by kernel_rfl) (by kernel_rfl) (fun _ _ _ h => h) (Or.inl ⟨by rfl, ?hyP8⟩) ?reP8
  case hyP8 => (intro W hSw; (try dsimp only at hSw); go_simp; try with_reducible rfl)
  try simp only [Act.put, List.setIfInBounds_toArray, List.set_cons_zero, List.set_cons_succ]
  refine' wpAnyJ_takeW (i := 8) (oi := { dst := some 352, op := Op.pick (Operand.tmp 348) (Operand.const (Value.bool true)) (Operand.tmp 351), type := 4, pos := "law.go:224", after := #[{ on := 4, ground := Ground.data }, { on := 7, ground := Ground.data }], guard := none }) (v := .bool false) rfl (by kernel_rfl) (by kernel_rfl) (by kernel_rfl) (fun _ _ _ h => h) (Or.inl ⟨by rfl, ?hyP9⟩) ?reP9
  case hyP9 => (intro W hSw; (try dsimp only at hSw); go_simp; try with_reducible rfl)
  try simp only [Act.put, List.setIfInBounds_toArray, List.set_cons_zero, List.set_cons_succ]
  refine' wpAnyJ_takeW (i := 9) (oi := { dst := some 353, op := Op.move (Operand.tmp 352), type := 4, pos := "law.go:224", after := #[{ on := 8, ground := Ground.data }, { on := 4, ground := Ground.chain }], guard := none }) (v := .bool false) rfl (by kernel_rfl) (by kernel_rfl) (by kernel_rfl) (fun _ _ _ h => h) (Or.inl ⟨by rfl, ?hyP10⟩) ?reP10
  case hyP10 => (intro W hSw; (try dsimp only at hSw); go_simp; try with_reducible rfl)
  try simp only [Act.put, List.setIfInBounds_toArray, List.set_cons_zero, List.set_cons_succ]
  refine' wpAnyJ_takeW (i := 10) (oi := { dst := some 354, op := Op.move (Operand.tmp 46), type := 22, pos := "law.go:224", after := #[{ on := 9, ground := Ground.guard }], guard := some (9, false) }) (v := _) rfl (by kernel_rfl) (by kernel_rfl) (by kernel_rfl) (fun _ _ _ h => h) (Or.inl ⟨by rfl, ?hyP11⟩) ?reP11
  case hyP11 => (intro W hSw; (try dsimp only at hSw); go_simp; try with_reducible rfl)
  try simp only [Act.put, List.setIfInBounds_toArray, List.set_cons_zero, List.set_cons_succ]
  refine' wpAnyJ_take (i := 11) (oi := { dst := some 355, op := Op.convert 22 9 (Operand.tmp 354), type := 9, pos := "law.go:224", after := #[{ on := 10, ground := Ground.data }, { on := 9, ground := Ground.guard }], guard := some (9, false) }) (v := _) rfl (by kernel_rfl) (by kernel_rfl) (by kernel_rfl) (by kernel_rfl) (fun _ _ _ h => h) (Or.inl ⟨by rfl, ?hyP12⟩) (by assumption) ?reP12
  case hyP12 => (intro W hSw; (try dsimp only at hSw); go_simp; try with_reducible rfl)
  try simp only [Act.put, List.setIfInBounds_toArray, List.set_cons_zero, List.set_cons_succ]
  refine' wpAnyJ_take (i := 12) (oi := { dst := some 356, op := Op.load 34 (Operand.tmp 24), type := 34, pos := "law.go:224", after := #[{ on := 9, ground := Ground.guard }], guard := some (9, false) }) (v := _) rfl (by kernel_rfl) (by kernel_rfl) (by kernel_rfl) (by kernel_rfl) (fun _ _ _ h => h) (Or.inl ⟨by rfl, ?hyP13⟩) (by assumption) ?reP13
  case hyP13 => (intro W hSw; (try dsimp only at hSw); go_simp; try with_reducible rfl)
  try simp only [Act.put, List.setIfInBounds_toArray, List.set_cons_zero, List.set_cons_succ]
  refine' wpAnyJ_take (i := 13) (oi := { dst := some 357, op := Op.load 3 (Operand.tmp 43), type := 3, pos := "law.go:224", after := #[{ on := 9, ground := Ground.guard }], guard := some (9, false) }) (v := _) rfl (by kernel_rfl) (by kernel_rfl) (by kernel_rfl) (by kernel_rfl) (fun _ _ _ h => h) (Or.inl ⟨by rfl, ?hyP14⟩) (by assumption) ?reP14
  case hyP14 => (intro W hSw; (try dsimp only at hSw); go_simp; try with_reducible rfl)
  try simp only [Act.put, List.setIfInBounds_toArray, List.set_cons_zero, List.set_cons_succ]
  refine' wpAnyJ_takeW (i := 14) (oi := { dst := some 358, op := Op.indexAddr 34 (Operand.tmp 356) (Operand.tmp 357), type := 0, pos := "law.go:224", after := #[{ on := 12, ground := Ground.data }, { on := 13, ground := Ground.data }, { on := 9, ground := Ground.guard }], guard := some (9, false) }) (v := _) rfl (by kernel_rfl) (by kernel_rfl) (by kernel_rfl) (fun _ _ _ h => h) (Or.inl ⟨by rfl, ?hyP15⟩) ?reP15
  case hyP15 => (intro W hSw; (try dsimp only at hSw); go_simp; try with_reducible rfl)
  try simp only [Act.put, List.setIfInBounds_toArray, List.set_cons_zero, List.set_cons_succ]
  refine' wpAnyJ_take (i := 15) (oi := { dst := some 359, op := Op.load 22 (Operand.tmp 358), type := 22, pos := "law.go:224", after := #[{ on := 14, ground := Ground.data }, { on := 9, ground := Ground.guard }], guard := some (9, false) }) (v := _) rfl (by kernel_rfl) (by kernel_rfl) (by kernel_rfl) (by kernel_rfl) (fun _ _ _ h => h) (Or.inl ⟨by rfl, ?hyP16⟩) (by assumption) ?reP16
  case hyP16 => (intro W hSw; (try dsimp only at hSw); go_simp; try with_reducible rfl)
  try simp only [Act.put, List.setIfInBounds_toArray, List.set_cons_zero, List.set_cons_succ]
  refine' wpAnyJ_take (i := 16) (oi := { dst := some 360, op := Op.convert 22 9 (Operand.tmp 359), type := 9, pos := "law.go:224", after := #[{ on := 15, ground := Ground.data }, { on := 9, ground := Ground.guard }], guard := some (9, false) }) (v := _) rfl (by kernel_rfl) (by kernel_rfl) (by kernel_rfl) (by kernel_rfl) (fun _ _ _ h => h) (Or.inl ⟨by rfl, ?hyP17⟩) (by assumption) ?reP17
  case hyP17 => (intro W hSw; (try dsimp only at hSw); go_simp; try with_reducible rfl)
  try simp only [Act.put, List.setIfInBounds_toArray, List.set_cons_zero, List.set_cons_succ]
  refine' wpAnyJ_takeW (i := 17) (oi := { dst := some 361, op := Op.binOp BinOp.neq 9 (Operand.tmp 355) (Operand.tmp 360) 9, type := 4, pos := "law.go:224", after := #[{ on := 11, ground := Ground.data }, { on := 16, ground := Ground.data }, { on := 9, ground := Ground.guard }], guard := some (9, false) }) (v := .bool false) rfl (by kernel_rfl) (by kernel_rfl) (by kernel_rfl) (fun _ _ _ h => h) (Or.inl ⟨by rfl, ?hyP18⟩) ?reP18
  case hyP18 => (intro W hSw; (try dsimp only at hSw); go_simp; try with_reducible rfl)
  try simp only [Act.put, List.setIfInBounds_toArray, List.set_cons_zero, List.set_cons_succ]
  refine' wpAnyJ_takeW (i := 18) (oi := { dst := some 362, op := Op.pick (Operand.tmp 353) (Operand.const (Value.bool true)) (Operand.tmp 361), type := 4, pos := "law.go:224", after := #[{ on := 9, ground := Ground.data }, { on := 17, ground := Ground.data }], guard := none }) (v := .bool false) rfl (by kernel_rfl) (by kernel_rfl) (by kernel_rfl) (fun _ _ _ h => h) (Or.inl ⟨by rfl, ?hyP19⟩) ?reP19
  case hyP19 => (intro W hSw; (try dsimp only at hSw); go_simp; try with_reducible rfl)
  try simp only [Act.put, List.setIfInBounds_toArray, List.set_cons_zero, List.set_cons_succ]
  refine wpAnyJ_done (by kernel_rfl) ?_ _
  gi_wp2_with fail
  refine HK2.out _ _ ?_
  clear HK2 K2 CV hHeld lt1 lt2 z1
  refine wpIn_seq_k (fun K3 hK3 => ?_)
  have HK3 := hide hK3
  clear hK3
  by_cases hstop : (m : Int) = stop
  · have e0 : ((m : Int) == stop) = true := by rw [beq_iff_eq]; exact hstop
    obtain ⟨rr, hrr⟩ := HLP.out
    have cwa : ∀ o, (W.alloc o).cell? ⟨bW, 0, none⟩ = some (.func (.func 32) #[] #[.pointer (some ⟨bx, 0, none⟩)]) := fun o => (World.cell?_of_block (Below.heap_alloc W o bW (World.block_lt_of_cell? _ _ cw))).trans cw
    have hW2 : Below W.heap.size W ((W.alloc (.cells #[.int .i64 0] 3)).drew) := ((Below.refl _ W).alloc (Nat.le_refl _) _).drew
    have hnB : ((W.alloc (.cells #[.int .i64 0] 3)).drew).heap[W.heap.size]? = some (.cells #[.int .i64 0] 3 (0, 0)) := Array.getElem?_push_size
    have hsz2 : ((W.alloc (.cells #[.int .i64 0] 3)).drew).heap.size = W.heap.size + 1 := World.size_alloc _ _
    have HW2 := hide (And.intro hW2 (And.intro hnB hsz2))
    have HRR := hide hrr
    clear hW2 hnB hsz2 hrr
    gi_wp2_with fail
    generalize (W.alloc (.cells #[.int .i64 0] 3)).drew = W2 at *
    obtain ⟨hW2, hnB, hsz2⟩ := HW2.out
    have sf := HSF.out.2.2.2.1
    have hbx2 : W2.heap[bx]? = some (.cells #[vo] 22 (0, 0)) := (hW2.block bx (lt_of_block sf.2.2.2.2.1)).trans sf.2.2.2.2.1
    have hov2 : W2.ownsRow 0 5 1 vo b.length (Lib.byteCells b) := own_on sf.2.2.2.2.2 (fun k e => hW2.block k (sf.2.2.2.2.2.lt k e).2)
    have hll : W2.heap[l]? = some (.loop rr) := (hW2.block l (lt_of_block HRR.out)).trans HRR.out
    have hbl2 := lt_of_block sf.2.2.2.2.1
    have hvo : ∀ dx V, I2 W.heap.size W2 dx V → Bs V vo b ∧ V.cell? ⟨bx, 0, none⟩ = some vo := fun dx V h => by
      have hm := h.2
      refine ⟨own_bs (own_on hov2 (fun k e => hm.2.2.2.2 k (hov2.lt k e).2 (fun e' => by have := (sf.2.2.2.2.2.lt k e).2; omega))), ?_⟩
      rw [cell_of_row V bx 0 _ 22 (0, 0) ((hm.2.2.2.2 bx (lt_of_block hbx2) (fun e' => by omega)).trans hbx2)]
      rfl
    have HBL := hide (And.intro hbl2 sf)
    clear sf hbx2 hov2 cwa cw
    apply range_toldN hll bx vo b rfl rfl hnv (I2 W.heap.size W2) (fun _ _ _ => False) hvo I2.own (fun _ _ _ _ _ h _ _ => h) ⟨by simpa using hnB, Mv.refl _ _⟩
    case hassign =>
      intro l2 k2 v2 V K hK
      gi_wp2
      exact hK
    case hbody =>
      intro l2 dx k2 v2 V1 V hl2 hnc hi hgr ht2 _ _
      have hiV := I2.own dx V1 V (some l2) hi hgr (fun r e => by cases e; exact ⟨hl2, hnc⟩)
      have cn : V.cell? ⟨W.heap.size, 0, none⟩ = some (.int .i64 (dx.length : Nat)) := (cell_of_row _ _ 0 _ 3 (0, 0) hiV.1).trans rfl
      have fn : V.frozen? ⟨W.heap.size, 0, none⟩ = false := frozen_of_row _ _ 0 _ 3 hiV.1
      have HV := hide hiV
      have hdx : dx.length ≤ 1000000 := by have h1 := ht2.count; have h2 := ht2.le; omega
      clear hiV hi hgr hnc hl2
      gi_wp2_with fail
      refine ⟨KeepsOthers.setCell _ _ _, trivial, ?_, HV.out.2.trans (S' := fun k => k = W.heap.size) ⟨rfl, rfl, rfl, by simp [World.setCell], fun k _ hs => heap_setCell_other _ ⟨W.heap.size, 0, none⟩ k _ hs⟩ (fun k _ e => e)⟩
      have := heap_setCell_same V W.heap.size 0 _ 3 (.int .i64 ((dx.length : Int) + 1)) HV.out.1
      rw [List.length_append]
      simpa using this
    case hdone =>
      intro dx k2 V ht2 hz2 hi2
      obtain ⟨rfl, _⟩ := Rc.told_same _ _ _ _ _ ht2 hz2 HTT.out.1 HTT.out.2
      have hbV : Below W.heap.size W V := ⟨hi2.2.1.trans hW2.os, hi2.2.2.1.trans hW2.tape, hi2.2.2.2.1.trans hW2.output, Nat.le_trans hW2.size hi2.2.2.2.2.1, fun k hk => (hi2.2.2.2.2.2 k (by have := hW2.size; omega) (fun e => by omega)).trans (hW2.block k hk)⟩
      have cn : V.cell? ⟨W.heap.size, 0, none⟩ = some (.int .i64 (n1 : Nat)) := by
        rw [HM.out.2]
        exact (cell_of_row _ _ 0 _ 3 (0, 0) hi2.1).trans rfl
      have cb : V.cell? ⟨aB, 0, none⟩ = some (.slice (some ⟨ga, 0, none⟩) n1 ca) := (hbV.cell (p := ⟨aB, 0, none⟩) (World.block_lt_of_cell? _ _ cbox)).trans cbox
      have HBV := hide hbV
      clear hbV hi2 ht2 hz2
      gi_wp2_with fail
      refine HK3.out _ _ ?_
      exact HT1.out _ _ HBV.out rfl rfl rfl rfl rfl rfl rfl rfl rfl rfl rfl
    case hstop =>
      intro c dx V h
      exact h.elim
  · have e0 : ((m : Int) == stop) = false := by rw [beq_eq_false_iff_ne]; exact hstop
    gi_wp2_with fail
    refine HK3.out _ _ ?_
    exact HT1.out _ _ ((Below.refl _ W).drew) rfl rfl rfl rfl rfl rfl rfl rfl rfl rfl rfl
end Go.Proofs.Ytkohlhnkaklnpaa

/-
  RecordReads: a turn of Walk.
-/
namespace Go.Proofs.Ytkohlhnkaklnpaa
open Go.RowKit Go.Shelf
attribute [local go_sem] Oper.semAt_some
set_option maxRecDepth 100000
/-- What stays as it is in both turns. -/
def Sg (stop : Int) (b : List UInt8) (w0 : World) (aB bW bx : Nat) (va vo : Value) (ds : List (List UInt8)) (V : World) : Prop :=
  V.heap[w0.heap.size]? = some (.cells #[.int .i64 stop] 3 (0, 0)) ∧ Al aB va ds V ∧ V.heap[bW]? = some (.cells #[.func (.func 32) #[] #[.pointer (some ⟨bx, 0, none⟩)]] 45 (0, 0)) ∧ V.heap[bx]? = some (.cells #[vo] 22 (0, 0)) ∧ V.ownsRow 0 5 1 vo b.length (Lib.byteCells b)
/-- Behind a turn. -/
def Pt (t : Nat) (b : List UInt8) (ds : List (List UInt8)) (tB : Nat) (f : Value → Array Value) (W W' : World) (D qB' : Nat) (lt : Value) (us : List Value) (ds' : List (List UInt8)) : Prop :=
  Mv W W' (fun k => k = tB) ∧ W'.heap[tB]? = some (.cells (f lt) 56 (0, 0)) ∧ W'.ownsRow W.heap.size 22 1 lt ds'.length us ∧ Pieces W' W.heap.size us ds' ∧ (∃ k, Rc.Told b ds' k) ∧ (t = 1 → ds' = ds) ∧
  W'.heap[D]? = some (.deferred (some [])) ∧ W.heap.size ≤ D ∧ W'.heap[qB']? = some (.cells #[.int .i64 ((t : Int) + 1)] 3 (0, 0)) ∧ W.heap.size ≤ qB'
/-- The slots that a turn wants, and leaves. -/
def Sl (w0 : World) (A : Act) (vk : Value) (aB bW tB qB : Nat) (dd : List Deferred) : Prop := A.tmps.size = 464 ∧ A.defers = dd ∧ A.tmps.getD 3 undef = .pointer (some ⟨w0.heap.size, 0, none⟩) ∧ A.tmps.getD 4 undef = .pointer (some ⟨w0.heap.size + 1, 0, none⟩) ∧ A.tmps.getD 5 undef = vk ∧
  A.tmps.getD 24 undef = .pointer (some ⟨aB, 0, none⟩) ∧ A.tmps.getD 38 undef = .pointer (some ⟨bW, 0, none⟩) ∧ A.tmps.getD 41 undef = .pointer (some ⟨tB, 0, none⟩) ∧ A.tmps.getD 42 undef = .pointer (some ⟨qB, 0, none⟩)
theorem pieces_low {W : World} {B B' : Nat} {vs : List Value} {ds : List (List UInt8)} (h : Pieces W B vs ds) (hB : B' ≤ B) : Pieces W B' vs ds := ⟨h.1, fun i i1 i2 => ⟨(h.2.1 i i1 i2).1.low hB, (h.2.1 i i1 i2).2⟩, h.2.2⟩
theorem own_low {w : World} {B B' e s n : Nat} {v : Value} {xs : List Value} (h : w.ownsRow B e s v n xs) (hB : B' ≤ B) : w.ownsRow B' e s v n xs := by
  refine ⟨h.1, ?_⟩
  rcases h.2 with h0 | ⟨g, cap, cur, rfl, hb, hr⟩
  · exact .inl h0
  · exact .inr ⟨g, cap, cur, rfl, Nat.le_trans hB hb, hr⟩
set_option maxHeartbeats 16000000 in
theorem turn0 {w0 W : World} {stop : Int} {A : Act} {b : List UInt8} {ds : List (List UInt8)} {tB qB aB bW bx KK : Nat} {va vo vk _l0 : Value} {Zg : Nat → Prop} {dd : List Deferred} {Kn : Act → World → Prop} {Qx : Exit → Act → World → Prop} (hTT : Rc.Told b ds KK) (hT0 : (Rc.get (b.drop KK)).2 = 0) (hbl : b.length ≤ 1048576) (hnv : NilOr vo)
    (hg : Keeps Zg W (Sg stop b w0 aB bW bx va vo ds)) (hq : W.heap[qB]? = some (.cells #[.int .i64 0] 3 (0, 0))) (ht : W.heap[tB]? = some (.cells #[.slice none 0 0, .slice none 0 0] 56 (0, 0))) (dtg : ¬ Zg tB) (hqt : qB ≠ tB) (hsl : Sl w0 A vk aB bW tB qB dd)
    (hn : ∀ (A' : Act) (W' : World) (D qB' : Nat) (lt : Value) (us : List Value) (ds' : List (List UInt8)), Pt 0 b ds tB (fun x => #[x, .slice none 0 0]) W W' D qB' lt us ds' → Sl w0 A' vk aB bW tB qB' (mark D :: dd) → Kn A' W') : turnC.wp Try.prog (Exit.then Kn Qx) A W := by
  obtain ⟨hs, hd, h3, h4, h5, h24, h38, h41, h42⟩ := hsl
  obtain ⟨s, eA, hsk⟩ := act_open A _ hs hd
  rw [hsk] at h3 h4 h5 h24 h38 h41 h42
  rw [eA, h3, h4, h5, h24, h38, h41, h42]
  clear eA hsk h3 h4 h5 h24 h38 h41 h42 hs hd
  have cq : W.cell? ⟨qB, 0, none⟩ = some (.int .i64 0) := (cell_of_row _ _ 0 _ 3 (0, 0) hq).trans rfl
  have HH := hide (And.intro hTT (And.intro hT0 (And.intro hg (And.intro hq (And.intro ht (And.intro dtg hqt))))))
  have HNN := hide hn
  clear hTT hT0 hg hq ht dtg hqt hn
  conv => arg 2; whnf
  refine wp_seq_k (fun K0 hK0 => ?_)
  have HK0 := hide hK0
  clear hK0
  go_wp2_with fail
  refine HK0.out _ _ ?_
  clear HK0 K0
  refine wp_seq_k (fun KB hKB => ?_)
  have HKB := hide hKB
  clear hKB
  refine wp_block ?_
  -- the boxes
  have hW1 : Below W.heap.size W ((W.alloc (.cells #[.int .i64 0] 3)).alloc (.cells #[.int .i64 0] 3)) := ((Below.refl _ W).alloc (Nat.le_refl _) _).alloc (by simp) _
  have bI : ((W.alloc (.cells #[.int .i64 0] 3)).alloc (.cells #[.int .i64 0] 3)).heap[W.heap.size]? = some (.cells #[.int .i64 0] 3 (0, 0)) := (heap_alloc_old _ _ (by simp)).trans (heap_alloc_new W _)
  have bP : ((W.alloc (.cells #[.int .i64 0] 3)).alloc (.cells #[.int .i64 0] 3)).heap[W.heap.size + 1]? = some (.cells #[.int .i64 0] 3 (0, 0)) := by
    have := heap_alloc_new (W.alloc (.cells #[.int .i64 0] 3)) (.cells #[.int .i64 0] 3)
    simpa using this
  have sZ : ((W.alloc (.cells #[.int .i64 0] 3)).alloc (.cells #[.int .i64 0] 3)).heap.size = W.heap.size + 2 := by simp
  have cw : ∀ o o', ((W.alloc o).alloc o').cell? ⟨bW, 0, none⟩ = some (.func (.func 32) #[] #[.pointer (some ⟨bx, 0, none⟩)]) := fun o o' => by
    have h := HH.out.2.2.1.here.2.2.1
    have hb : Below W.heap.size W ((W.alloc o).alloc o') := ((Below.refl _ W).alloc (Nat.le_refl _) _).alloc (by simp) _
    exact (hb.cell (p := ⟨bW, 0, none⟩) (lt_of_block h)).trans ((cell_of_row _ _ 0 _ 45 (0, 0) h).trans rfl)
  have HW1 := hide (And.intro hW1 (And.intro bI (And.intro bP sZ)))
  clear hW1 bI bP sZ cq
  go_wp2_with fail
  generalize (W.alloc (.cells #[.int .i64 0] 3)).alloc (.cells #[.int .i64 0] 3) = wS at *
  obtain ⟨hTT, hT0, hg, hq, ht, dtg, hqt⟩ := HH.out
  obtain ⟨hW1, bI, bP, sZ⟩ := HW1.out
  have hqS : wS.heap[qB]? = some (.cells #[.int .i64 0] 3 (0, 0)) := (hW1.block qB (lt_of_block hq)).trans hq
  have htS : wS.heap[tB]? = some (.cells ((fun x => #[x, .slice none 0 0]) (.slice none 0 0)) 56 (0, 0)) := (hW1.block tB (lt_of_block ht)).trans ht
  have ltq := lt_of_block hq
  have ltt := lt_of_block ht
  have hgS := hg.later hW1
  have hsf : Keeps (fun k => Zg k ∨ k = qB) wS (Sf 0 stop b w0 qB aB bW bx va vo ds) := (hgS.and (Z' := fun k => k = qB) (P' := fun V => V.heap[qB]? = some (.cells #[.int .i64 0] 3 (0, 0))) ⟨fun k e => by rw [e]; exact lt_of_block hqS, fun V _ hv => (hv qB rfl).trans hqS⟩).imp (fun V h => ⟨h.2, h.1⟩)
  have hz : ∀ k, (Zg k ∨ k = qB) → ¬ Bx W.heap.size (W.heap.size + 1) tB k := fun k e e' => by
    have hk : k < W.heap.size := e.elim (hg.1 k) (fun h => by rw [h]; exact ltq)
    rcases e' with e' | e' | e'
    · omega
    · omega
    · rcases e with e | e
      · rw [e'] at e; exact dtg e
      · omega
  have hne : W.heap.size ≠ W.heap.size + 1 ∧ W.heap.size ≠ tB ∧ W.heap.size + 1 ≠ tB ∧ W.heap.size < wS.heap.size ∧ W.heap.size + 1 < wS.heap.size ∧ tB < wS.heap.size := ⟨by omega, by omega, by omega, by omega, by omega, by omega⟩
  have hvo : ∀ dx V, Ti b W.heap.size (W.heap.size + 1) tB (fun x => #[x, .slice none 0 0]) wS dx V → Bs V vo b ∧ V.cell? ⟨bx, 0, none⟩ = some vo := fun dx V h => by
    obtain ⟨_, _, _, _, _, _, _, _, _, hm⟩ := h
    have := (hsf.mv hm hz).here
    exact ⟨own_bs this.2.2.2.2.2, (cell_of_row V bx 0 _ 22 (0, 0) this.2.2.2.2.1).trans rfl⟩
  have hI0 : Ti b W.heap.size (W.heap.size + 1) tB (fun x => #[x, .slice none 0 0]) wS [] wS := ⟨0, .slice none 0 0, [], Rc.Told.none, bI, bP, htS, World.ownsRow_nil _ _ _ _, Pieces.nil _ _, Mv.refl _ _⟩
  have HS := hide (And.intro hsf (And.intro hz (And.intro hne sZ)))
  -- what follows the round
  have fin : ∀ (V : World) (D : Nat) (dx : List (List UInt8)), Ti b W.heap.size (W.heap.size + 1) tB (fun x => #[x, .slice none 0 0]) wS dx V → (0 = 1 → dx = ds) → wS.heap.size ≤ D → V.heap[D]? = some (.deferred (some [])) → ∀ (V' : World) (qB' : Nat), Below V.heap.size V V' → V.heap.size ≤ qB' → V'.heap[qB']? = some (.cells #[.int .i64 ((0 : Int) + 1)] 3 (0, 0)) → ∃ lt us, Pt 0 b ds tB (fun x => #[x, .slice none 0 0]) W V' D qB' lt us dx := by
    intro V D dx hti hdx hD hdef V' qB' hb' hqV hq'
    obtain ⟨kk, lt, us, t1, t2, t3, t4, t5, t6, t7⟩ := hti.on hb'
    refine ⟨lt, us, ?_, t4, own_low t5 (by omega), pieces_low t6 (by omega), ⟨kk, t1⟩, hdx, (hb'.block D (lt_of_block hdef)).trans hdef, by omega, hq', ?_⟩
    · exact ⟨t7.1.trans hW1.os, t7.2.1.trans hW1.tape, t7.2.2.1.trans hW1.output, Nat.le_trans hW1.size t7.2.2.2.1, fun k hk hs => (t7.2.2.2.2 k (by omega) (fun e => by
        rcases e with e | e | e
        · omega
        · omega
        · exact hs e)).trans (hW1.block k hk)⟩
    · have := hti
      obtain ⟨_, _, _, _, _, _, _, _, _, hm⟩ := hti
      have := hm.2.2.2.1
      omega
  have FIN := hide fin
  have fkb : ∀ (A' : Act) (V : World) (D : Nat) (dx : List (List UInt8)), Ti b W.heap.size (W.heap.size + 1) tB (fun x => #[x, .slice none 0 0]) wS dx V → (0 = 1 → dx = ds) → wS.heap.size ≤ D → V.heap[D]? = some (.deferred (some [])) → Sl w0 A' vk aB bW tB qB (mark D :: dd) → KB A' V := by
    intro A' V D dx hti hdx hD hdef ⟨hs, hd, h3, h4, h5, h24, h38, h41, h42⟩
    have hf := FIN.out V D dx hti hdx hD hdef
    have sfV : Sf 0 stop b w0 qB aB bW bx va vo ds V := by
      obtain ⟨_, _, _, _, _, _, _, _, _, hm⟩ := hti
      exact (hsf.mv hm hz).here
    have cqV : V.cell? ⟨qB, 0, none⟩ = some (.int .i64 0) := (cell_of_row _ _ 0 _ 3 (0, 0) sfV.1).trans rfl
    obtain ⟨s', eA, hsk⟩ := act_open A' _ hs hd
    rw [hsk] at h3 h4 h5 h24 h38 h41 h42
    refine HKB.out _ _ ?_
    rw [eA, h3, h4, h5, h24, h38, h41, h42]
    have HF := hide hf
    have HNN2 := hide HNN.out
    clear eA hsk h3 h4 h5 h24 h38 h41 h42 hs hd hf sfV hti hdef hD hdx fin FIN HKB HNN HS hsf hz hne hvo hI0 hgS htS hqS bI bP HW1 hW1 HH hTT hT0 hg hq ht dtg hqt sZ cw
    go_wp2_with fail
    obtain ⟨lt, us, hpt⟩ := HF.out _ V.heap.size ((Below.refl _ V).alloc (Nat.le_refl _) (.cells #[.int .i64 ((0 : Int) + 1)] 3)) (Nat.le_refl _) Array.getElem?_push_size
    refine HNN2.out _ _ D V.heap.size lt us dx hpt ⟨rfl, rfl, rfl, rfl, rfl, rfl, rfl, rfl, rfl⟩
  have FKB := hide fkb
  clear fin fkb
  refine (wpIn_wide (n := 6)).1 ?_
  apply range_toldH bx vo b rfl rfl hnv (Ti b W.heap.size (W.heap.size + 1) tB (fun x => #[x, .slice none 0 0]) wS) (Ix0 b W.heap.size (W.heap.size + 1) tB (fun x => #[x, .slice none 0 0]) wS stop) hvo Ti.own (fun c s V V' row h hgr hr => ⟨h.1, by obtain ⟨dx, h1, h2⟩ := h.2; exact ⟨dx, Ti.own dx V V' row h1 hgr hr, h2⟩⟩) hI0
  case hassign =>
    intro l k v V K hK
    gi_wp2
    exact hK
  case hbody =>
    intro l dx k v V1 V hl hnc hlp hi hgr ht2 hz2 hp2
    have hlg := get_len (b.drop k)
    rw [List.length_drop] at hlg
    have hM : wS.heap.size ≤ V1.heap.size := by
      obtain ⟨_, _, _, _, _, _, _, _, _, hm⟩ := hi
      exact hm.2.2.2.1
    exact body0 hTT hT0 hsf hz hne ⟨.inr rfl, trivial⟩ (hi.tm hgr (fun r e => by cases e; exact ⟨hl, hnc⟩)) ht2 hz2 rfl hp2 hM (by omega) hbl rfl rfl rfl rfl rfl rfl rfl rfl rfl rfl rfl
  case hdone =>
    intro D dx k V hD ht2 hz2 hi2 hdef
    obtain ⟨rfl, _⟩ := Rc.told_same _ _ _ _ _ ht2 hz2 hTT hT0
    have HE := hide (fun (A' : Act) => FKB.out A' V D dx hi2 (fun _ => rfl) hD hdef)
    have sfV : Sf 0 stop b w0 qB aB bW bx va vo dx V := by
      obtain ⟨_, _, _, _, _, _, _, _, _, hm⟩ := hi2
      exact (hsf.mv hm hz).here
    obtain ⟨aa, ca, rfl, hca1, hca2⟩ := sfV.2.2.1.form
    have cqV : V.cell? ⟨qB, 0, none⟩ = some (.int .i64 0) := (cell_of_row _ _ 0 _ 3 (0, 0) sfV.1).trans rfl
    have csV : V.cell? ⟨w0.heap.size, 0, none⟩ = some (.int .i64 stop) := (cell_of_row _ _ 0 _ 3 (0, 0) sfV.2.1).trans rfl
    have cbV := sfV.2.2.1.box
    have ciV : V.cell? ⟨W.heap.size, 0, none⟩ = some (.int .i64 (dx.length : Nat)) := by
      obtain ⟨_, _, _, _, h2, _⟩ := hi2
      exact (cell_of_row _ _ 0 _ 3 (0, 0) h2).trans rfl
    have z1 : ((dx.length : Int) != (dx.length : Int)) = false := by simp
    generalize dx.length = nn at ciV cbV z1 hca1
    clear sfV hi2 ht2 hz2 hdef HS hsf hz hne hvo hI0 hgS htS hqS bI bP HW1 hW1 HH hTT hT0 hg hq ht dtg hqt sZ cw FIN HNN HKB FKB
    cases hbs : ((nn : Int) != stop)
    all_goals
      go_wp2_with fail
      exact HE.out _ ⟨rfl, rfl, rfl, rfl, rfl, rfl, rfl, rfl, rfl⟩
  case hstop =>
    intro D c dx V hD hix hdef
    obtain ⟨rfl, dy, hi2, hstp⟩ := hix
    have HE := hide (fun (A' : Act) => FKB.out A' V D dy hi2 (fun h => by cases h) hD hdef)
    have sfV : Sf 0 stop b w0 qB aB bW bx va vo ds V := by
      obtain ⟨_, _, _, _, _, _, _, _, _, hm⟩ := hi2
      exact (hsf.mv hm hz).here
    have cqV : V.cell? ⟨qB, 0, none⟩ = some (.int .i64 0) := (cell_of_row _ _ 0 _ 3 (0, 0) sfV.1).trans rfl
    have csV : V.cell? ⟨w0.heap.size, 0, none⟩ = some (.int .i64 stop) := (cell_of_row _ _ 0 _ 3 (0, 0) sfV.2.1).trans rfl
    have ciV : V.cell? ⟨W.heap.size, 0, none⟩ = some (.int .i64 (dy.length : Nat)) := by
      obtain ⟨_, _, _, _, h2, _⟩ := hi2
      exact (cell_of_row _ _ 0 _ 3 (0, 0) h2).trans rfl
    have hbs : ((dy.length : Int) != stop) = false := by simp [hstp]
    generalize dy.length = nn at ciV hbs
    clear sfV hi2 hdef HS hsf hz hne hvo hI0 hgS htS hqS bI bP HW1 hW1 HH hTT hT0 hg hq ht dtg hqt sZ cw FIN HNN HKB FKB hstp
    refine wpIn_wide.2 ?_
    go_wp2_with fail
    exact HE.out _ ⟨rfl, rfl, rfl, rfl, rfl, rfl, rfl, rfl, rfl⟩
end Go.Proofs.Ytkohlhnkaklnpaa

/-
  RecordReads: the second turn of Walk.
-/
namespace Go.Proofs.Ytkohlhnkaklnpaa
open Go.RowKit Go.Shelf
attribute [local go_sem] Oper.semAt_some
set_option maxRecDepth 100000
set_option maxHeartbeats 16000000 in
theorem turn1 {w0 W : World} {stop : Int} {A : Act} {b : List UInt8} {ds : List (List UInt8)} {tB qB aB bW bx KK : Nat} {va vo vk l0 : Value} {Zg : Nat → Prop} {dd : List Deferred} {Kn : Act → World → Prop} {Qx : Exit → Act → World → Prop} (hTT : Rc.Told b ds KK) (hT0 : (Rc.get (b.drop KK)).2 = 0) (hbl : b.length ≤ 1048576) (hnv : NilOr vo)
    (hg : Keeps Zg W (Sg stop b w0 aB bW bx va vo ds)) (hq : W.heap[qB]? = some (.cells #[.int .i64 1] 3 (0, 0))) (ht : W.heap[tB]? = some (.cells #[l0, .slice none 0 0] 56 (0, 0))) (dtg : ¬ Zg tB) (hqt : qB ≠ tB) (hsl : Sl w0 A vk aB bW tB qB dd)
    (hn : ∀ (A' : Act) (W' : World) (D qB' : Nat) (lt : Value) (us : List Value) (ds' : List (List UInt8)), Pt 1 b ds tB (fun x => #[l0, x]) W W' D qB' lt us ds' → Sl w0 A' vk aB bW tB qB' (mark D :: dd) → Kn A' W') : turnC.wp Try.prog (Exit.then Kn Qx) A W := by
  obtain ⟨hs, hd, h3, h4, h5, h24, h38, h41, h42⟩ := hsl
  obtain ⟨s, eA, hsk⟩ := act_open A _ hs hd
  rw [hsk] at h3 h4 h5 h24 h38 h41 h42
  rw [eA, h3, h4, h5, h24, h38, h41, h42]
  clear eA hsk h3 h4 h5 h24 h38 h41 h42 hs hd
  have cq : W.cell? ⟨qB, 0, none⟩ = some (.int .i64 1) := (cell_of_row _ _ 0 _ 3 (0, 0) hq).trans rfl
  have HH := hide (And.intro hTT (And.intro hT0 (And.intro hg (And.intro hq (And.intro ht (And.intro dtg hqt))))))
  have HNN := hide hn
  clear hTT hT0 hg hq ht dtg hqt hn
  conv => arg 2; whnf
  refine wp_seq_k (fun K0 hK0 => ?_)
  have HK0 := hide hK0
  clear hK0
  go_wp2_with fail
  refine HK0.out _ _ ?_
  clear HK0 K0
  refine wp_seq_k (fun KB hKB => ?_)
  have HKB := hide hKB
  clear hKB
  refine wp_block ?_
  -- the boxes
  have hW1 : Below W.heap.size W ((W.alloc (.cells #[.int .i64 0] 3)).alloc (.cells #[.int .i64 0] 3)) := ((Below.refl _ W).alloc (Nat.le_refl _) _).alloc (by simp) _
  have bI : ((W.alloc (.cells #[.int .i64 0] 3)).alloc (.cells #[.int .i64 0] 3)).heap[W.heap.size]? = some (.cells #[.int .i64 0] 3 (0, 0)) := (heap_alloc_old _ _ (by simp)).trans (heap_alloc_new W _)
  have bP : ((W.alloc (.cells #[.int .i64 0] 3)).alloc (.cells #[.int .i64 0] 3)).heap[W.heap.size + 1]? = some (.cells #[.int .i64 0] 3 (0, 0)) := by
    have := heap_alloc_new (W.alloc (.cells #[.int .i64 0] 3)) (.cells #[.int .i64 0] 3)
    simpa using this
  have sZ : ((W.alloc (.cells #[.int .i64 0] 3)).alloc (.cells #[.int .i64 0] 3)).heap.size = W.heap.size + 2 := by simp
  have cw : ∀ o o', ((W.alloc o).alloc o').cell? ⟨bW, 0, none⟩ = some (.func (.func 32) #[] #[.pointer (some ⟨bx, 0, none⟩)]) := fun o o' => by
    have h := HH.out.2.2.1.here.2.2.1
    have hb : Below W.heap.size W ((W.alloc o).alloc o') := ((Below.refl _ W).alloc (Nat.le_refl _) _).alloc (by simp) _
    exact (hb.cell (p := ⟨bW, 0, none⟩) (lt_of_block h)).trans ((cell_of_row _ _ 0 _ 45 (0, 0) h).trans rfl)
  have HW1 := hide (And.intro hW1 (And.intro bI (And.intro bP sZ)))
  clear hW1 bI bP sZ cq
  go_wp2_with fail
  generalize (W.alloc (.cells #[.int .i64 0] 3)).alloc (.cells #[.int .i64 0] 3) = wS at *
  obtain ⟨hTT, hT0, hg, hq, ht, dtg, hqt⟩ := HH.out
  obtain ⟨hW1, bI, bP, sZ⟩ := HW1.out
  have hqS : wS.heap[qB]? = some (.cells #[.int .i64 1] 3 (0, 0)) := (hW1.block qB (lt_of_block hq)).trans hq
  have htS : wS.heap[tB]? = some (.cells ((fun x => #[l0, x]) (.slice none 0 0)) 56 (0, 0)) := (hW1.block tB (lt_of_block ht)).trans ht
  have ltq := lt_of_block hq
  have ltt := lt_of_block ht
  have hgS := hg.later hW1
  have hsf : Keeps (fun k => Zg k ∨ k = qB) wS (Sf 1 stop b w0 qB aB bW bx va vo ds) := (hgS.and (Z' := fun k => k = qB) (P' := fun V => V.heap[qB]? = some (.cells #[.int .i64 1] 3 (0, 0))) ⟨fun k e => by rw [e]; exact lt_of_block hqS, fun V _ hv => (hv qB rfl).trans hqS⟩).imp (fun V h => ⟨h.2, h.1⟩)
  have hz : ∀ k, (Zg k ∨ k = qB) → ¬ Bx W.heap.size (W.heap.size + 1) tB k := fun k e e' => by
    have hk : k < W.heap.size := e.elim (hg.1 k) (fun h => by rw [h]; exact ltq)
    rcases e' with e' | e' | e'
    · omega
    · omega
    · rcases e with e | e
      · rw [e'] at e; exact dtg e
      · omega
  have hne : W.heap.size ≠ W.heap.size + 1 ∧ W.heap.size ≠ tB ∧ W.heap.size + 1 ≠ tB ∧ W.heap.size < wS.heap.size ∧ W.heap.size + 1 < wS.heap.size ∧ tB < wS.heap.size := ⟨by omega, by omega, by omega, by omega, by omega, by omega⟩
  have hvo : ∀ dx V, Ti b W.heap.size (W.heap.size + 1) tB (fun x => #[l0, x]) wS dx V → Bs V vo b ∧ V.cell? ⟨bx, 0, none⟩ = some vo := fun dx V h => by
    obtain ⟨_, _, _, _, _, _, _, _, _, hm⟩ := h
    have := (hsf.mv hm hz).here
    exact ⟨own_bs this.2.2.2.2.2, (cell_of_row V bx 0 _ 22 (0, 0) this.2.2.2.2.1).trans rfl⟩
  have hI0 : Ti b W.heap.size (W.heap.size + 1) tB (fun x => #[l0, x]) wS [] wS := ⟨0, .slice none 0 0, [], Rc.Told.none, bI, bP, htS, World.ownsRow_nil _ _ _ _, Pieces.nil _ _, Mv.refl _ _⟩
  have HS := hide (And.intro hsf (And.intro hz (And.intro hne sZ)))
  -- what follows the round
  have fin : ∀ (V : World) (D : Nat) (dx : List (List UInt8)), Ti b W.heap.size (W.heap.size + 1) tB (fun x => #[l0, x]) wS dx V → (1 = 1 → dx = ds) → wS.heap.size ≤ D → V.heap[D]? = some (.deferred (some [])) → ∀ (V' : World) (qB' : Nat), Below V.heap.size V V' → V.heap.size ≤ qB' → V'.heap[qB']? = some (.cells #[.int .i64 ((1 : Int) + 1)] 3 (0, 0)) → ∃ lt us, Pt 1 b ds tB (fun x => #[l0, x]) W V' D qB' lt us dx := by
    intro V D dx hti hdx hD hdef V' qB' hb' hqV hq'
    obtain ⟨kk, lt, us, t1, t2, t3, t4, t5, t6, t7⟩ := hti.on hb'
    refine ⟨lt, us, ?_, t4, own_low t5 (by omega), pieces_low t6 (by omega), ⟨kk, t1⟩, hdx, (hb'.block D (lt_of_block hdef)).trans hdef, by omega, hq', ?_⟩
    · exact ⟨t7.1.trans hW1.os, t7.2.1.trans hW1.tape, t7.2.2.1.trans hW1.output, Nat.le_trans hW1.size t7.2.2.2.1, fun k hk hs => (t7.2.2.2.2 k (by omega) (fun e => by
        rcases e with e | e | e
        · omega
        · omega
        · exact hs e)).trans (hW1.block k hk)⟩
    · have := hti
      obtain ⟨_, _, _, _, _, _, _, _, _, hm⟩ := hti
      have := hm.2.2.2.1
      omega
  have FIN := hide fin
  have fkb : ∀ (A' : Act) (V : World) (D : Nat) (dx : List (List UInt8)), Ti b W.heap.size (W.heap.size + 1) tB (fun x => #[l0, x]) wS dx V → (1 = 1 → dx = ds) → wS.heap.size ≤ D → V.heap[D]? = some (.deferred (some [])) → Sl w0 A' vk aB bW tB qB (mark D :: dd) → KB A' V := by
    intro A' V D dx hti hdx hD hdef ⟨hs, hd, h3, h4, h5, h24, h38, h41, h42⟩
    have hf := FIN.out V D dx hti hdx hD hdef
    have sfV : Sf 1 stop b w0 qB aB bW bx va vo ds V := by
      obtain ⟨_, _, _, _, _, _, _, _, _, hm⟩ := hti
      exact (hsf.mv hm hz).here
    have cqV : V.cell? ⟨qB, 0, none⟩ = some (.int .i64 1) := (cell_of_row _ _ 0 _ 3 (0, 0) sfV.1).trans rfl
    obtain ⟨s', eA, hsk⟩ := act_open A' _ hs hd
    rw [hsk] at h3 h4 h5 h24 h38 h41 h42
    refine HKB.out _ _ ?_
    rw [eA, h3, h4, h5, h24, h38, h41, h42]
    have HF := hide hf
    have HNN2 := hide HNN.out
    clear eA hsk h3 h4 h5 h24 h38 h41 h42 hs hd hf sfV hti hdef hD hdx fin FIN HKB HNN HS hsf hz hne hvo hI0 hgS htS hqS bI bP HW1 hW1 HH hTT hT0 hg hq ht dtg hqt sZ cw
    go_wp2_with fail
    obtain ⟨lt, us, hpt⟩ := HF.out _ V.heap.size ((Below.refl _ V).alloc (Nat.le_refl _) (.cells #[.int .i64 2] 3)) (Nat.le_refl _) (by rw [show ((1 : Int) + 1) = 2 from rfl]; exact Array.getElem?_push_size)
    refine HNN2.out _ _ D V.heap.size lt us dx hpt ⟨rfl, rfl, rfl, rfl, rfl, rfl, rfl, rfl, rfl⟩
  have FKB := hide fkb
  clear fin fkb
  have HV := hide hvo
  have HI0 := hide hI0
  have HT := hide (And.intro hTT hT0)
  clear hvo hI0 hTT hT0 hsf hz hne hgS htS hqS bI bP hW1 hg hq ht dtg hqt sZ cw ltq ltt
  refine (wpIn_wide (n := 6)).1 ?_
  apply range_toldH (a₁ := fun k v => { tmps := #[s 0, s 1, s 2, .pointer (some ⟨w0.heap.size, 0, none⟩), .pointer (some ⟨w0.heap.size + 1, 0, none⟩), vk, s 6, s 7, s 8, s 9, s 10, s 11, s 12, s 13, s 14, s 15, s 16, s 17, s 18, s 19, s 20, s 21, s 22, s 23, .pointer (some ⟨aB, 0, none⟩), s 25, s 26, s 27, s 28, s 29, s 30, s 31, s 32, s 33, s 34, s 35, s 36, s 37, .pointer (some ⟨bW, 0, none⟩), s 39, s 40, .pointer (some ⟨tB, 0, none⟩), .pointer (some ⟨qB, 0, none⟩), .pointer (some ⟨W.heap.size, 0, none⟩), .pointer (some ⟨W.heap.size + 1, 0, none⟩), .int .i64 (k : Nat), v, s 47, s 48, s 49, s 50, s 51, s 52, s 53, s 54, s 55, s 56, s 57, s 58, s 59, s 60, s 61, s 62, s 63, s 64, s 65, s 66, s 67, s 68, s 69, s 70, s 71, s 72, s 73, s 74, s 75, s 76, s 77, s 78, s 79, s 80, s 81, s 82, s 83, s 84, s 85, s 86, s 87, s 88, s 89, s 90, s 91, s 92, s 93, s 94, s 95, s 96, s 97, s 98, s 99, s 100, s 101, s 102, s 103, s 104, s 105, s 106, s 107, s 108, s 109, s 110, s 111, s 112, s 113, s 114, s 115, s 116, s 117, s 118, s 119, s 120, s 121, s 122, s 123, s 124, s 125, s 126, s 127, s 128, s 129, s 130, s 131, s 132, s 133, s 134, s 135, s 136, s 137, s 138, s 139, s 140, s 141, s 142, s 143, s 144, s 145, s 146, s 147, s 148, s 149, s 150, s 151, s 152, s 153, s 154, s 155, s 156, s 157, s 158, s 159, s 160, s 161, s 162, s 163, s 164, s 165, s 166, s 167, s 168, s 169, s 170, s 171, s 172, s 173, s 174, s 175, s 176, s 177, s 178, s 179, s 180, s 181, s 182, s 183, s 184, s 185, s 186, s 187, s 188, s 189, s 190, s 191, s 192, s 193, s 194, s 195, s 196, s 197, s 198, s 199, s 200, s 201, s 202, s 203, s 204, s 205, s 206, s 207, s 208, s 209, s 210, s 211, s 212, s 213, s 214, s 215, s 216, s 217, s 218, s 219, s 220, s 221, s 222, s 223, s 224, s 225, s 226, s 227, s 228, s 229, s 230, s 231, s 232, s 233, s 234, s 235, s 236, s 237, s 238, s 239, s 240, s 241, s 242, s 243, s 244, s 245, s 246, s 247, s 248, s 249, s 250, s 251, s 252, s 253, s 254, s 255, s 256, s 257, s 258, s 259, s 260, s 261, s 262, s 263, s 264, s 265, s 266, s 267, s 268, s 269, s 270, s 271, s 272, s 273, s 274, s 275, s 276, s 277, s 278, s 279, s 280, s 281, s 282, s 283, s 284, s 285, s 286, s 287, s 288, s 289, s 290, s 291, s 292, s 293, s 294, s 295, s 296, s 297, s 298, s 299, s 300, s 301, s 302, s 303, s 304, s 305, s 306, s 307, s 308, s 309, s 310, s 311, s 312, s 313, s 314, s 315, s 316, s 317, s 318, s 319, s 320, s 321, s 322, s 323, s 324, s 325, s 326, s 327, s 328, s 329, .int .i64 1, .bool true, s 332, s 333, .func (.func 32) #[] #[.pointer (some ⟨bx, 0, none⟩)], .int .i64 (k : Nat), v, s 337, s 338, s 339, s 340, s 341, s 342, s 343, s 344, s 345, s 346, s 347, s 348, s 349, s 350, s 351, s 352, s 353, s 354, s 355, s 356, s 357, s 358, s 359, s 360, s 361, s 362, s 363, s 364, s 365, s 366, s 367, s 368, s 369, s 370, s 371, s 372, s 373, s 374, s 375, s 376, s 377, s 378, s 379, s 380, s 381, s 382, s 383, s 384, s 385, s 386, s 387, s 388, s 389, s 390, s 391, s 392, s 393, s 394, s 395, s 396, s 397, s 398, s 399, s 400, s 401, s 402, s 403, s 404, s 405, s 406, s 407, s 408, s 409, s 410, s 411, s 412, s 413, s 414, s 415, s 416, s 417, s 418, s 419, s 420, s 421, s 422, s 423, s 424, s 425, s 426, s 427, s 428, s 429, s 430, s 431, s 432, s 433, s 434, s 435, s 436, s 437, s 438, s 439, s 440, s 441, s 442, s 443, s 444, s 445, s 446, s 447, s 448, s 449, s 450, s 451, s 452, s 453, s 454, s 455, s 456, s 457, s 458, s 459, s 460, s 461, s 462, s 463], defers := [] }) bx vo b rfl rfl hnv (Ti b W.heap.size (W.heap.size + 1) tB (fun x => #[l0, x]) wS) (fun _ _ _ => False) HV.out Ti.own (fun _ _ _ _ _ h _ _ => h) HI0.out
  case hassign =>
    intro l k v V K hK
    gi_wp2
    exact hK
  case hbody =>
    intro l dx k v V1 V hl hnc hlp hi hgr ht2 hz2 hp2
    obtain ⟨hTT, hT0⟩ := HT.out
    obtain ⟨hsf, hz, hne, sZ⟩ := HS.out
    have hlg := get_len (b.drop k)
    rw [List.length_drop] at hlg
    have hM : wS.heap.size ≤ V1.heap.size := by
      obtain ⟨_, _, _, _, _, _, _, _, _, hm⟩ := hi
      exact hm.2.2.2.1
    exact body1 hTT hT0 hsf hz hne ⟨.inr rfl, trivial⟩ (hi.tm hgr (fun r e => by cases e; exact ⟨hl, hnc⟩)) ht2 hz2 rfl hp2 hM (by omega) hbl hlp hnv rfl rfl rfl rfl rfl rfl rfl rfl rfl rfl rfl rfl
  case hdone =>
    intro D dx k V hD ht2 hz2 hi2 hdef
    obtain ⟨hTT, hT0⟩ := HT.out
    obtain ⟨hsf, hz, hne, sZ⟩ := HS.out
    obtain ⟨rfl, _⟩ := Rc.told_same _ _ _ _ _ ht2 hz2 hTT hT0
    have HE := hide (fun (A' : Act) => FKB.out A' V D dx hi2 (fun _ => rfl) hD hdef)
    have sfV : Sf 1 stop b w0 qB aB bW bx va vo dx V := by
      obtain ⟨_, _, _, _, _, _, _, _, _, hm⟩ := hi2
      exact (hsf.mv hm hz).here
    obtain ⟨aa, ca, rfl, hca1, hca2⟩ := sfV.2.2.1.form
    have cqV : V.cell? ⟨qB, 0, none⟩ = some (.int .i64 1) := (cell_of_row _ _ 0 _ 3 (0, 0) sfV.1).trans rfl
    have csV : V.cell? ⟨w0.heap.size, 0, none⟩ = some (.int .i64 stop) := (cell_of_row _ _ 0 _ 3 (0, 0) sfV.2.1).trans rfl
    have cbV := sfV.2.2.1.box
    have ciV : V.cell? ⟨W.heap.size, 0, none⟩ = some (.int .i64 (dx.length : Nat)) := by
      obtain ⟨_, _, _, _, h2, _⟩ := hi2
      exact (cell_of_row _ _ 0 _ 3 (0, 0) h2).trans rfl
    have z1 : ((dx.length : Int) != (dx.length : Int)) = false := by simp
    generalize dx.length = nn at ciV cbV z1 hca1
    clear sfV hi2 ht2 hz2 hdef HS hsf hz hne HV HI0 HT HW1 HH hTT hT0 sZ FIN HNN HKB FKB
    go_wp2_with fail
    exact HE.out _ ⟨rfl, rfl, rfl, rfl, rfl, rfl, rfl, rfl, rfl⟩
  case hstop =>
    intro D c dx V _ h _
    exact h.elim
end Go.Proofs.Ytkohlhnkaklnpaa

/-
  RecordReads: both turns of Walk.
-/
namespace Go.Proofs.Ytkohlhnkaklnpaa
open Go.RowKit Go.Shelf
attribute [local go_sem] Oper.semAt_some
set_option maxRecDepth 100000
theorem loop_ghost {P : Program} {a : Act} {w : World} {Q : Exit → Act → World → Prop} {c : Code} (I : Nat → Act → World → Prop) (m0 : Nat) (h₀ : I m0 a w)
    (round : ∀ m a w, I m a w → c.wp P (Exit.then (fun a' w' => ∃ m', m' < m ∧ I m' a' w') Q) a w) : (Code.loop c).wp P Q a w := by
  intro b k cs
  have key : ∀ n a w, I n a w →
      ∃ e a' w', Q e a' w' ∧ Arrives P (lone (b.at a (.code c :: .inLoop c :: k)) cs w) b k cs e a' w' := by
    intro n
    induction n using Nat.strongRecOn with
    | _ n ih =>
      intro a w hI
      obtain ⟨e, a₁, w₁, hq, harr⟩ := round n a w hI b (.inLoop c :: k) cs
      cases e with
      | normal =>
        obtain ⟨m', hlt, hI₁⟩ := hq
        obtain ⟨e₂, a₂, w₂, hq₂, harr₂⟩ := ih m' hlt a₁ w₁ hI₁
        exact ⟨e₂, a₂, w₂, hq₂, .of_steps (Steps.trans harr (.one step_inLoop)) harr₂⟩
      | exit id => exact ⟨.exit id, a₁, w₁, hq, fun k' hk => harr k' (by simp [exitTo, hk])⟩
      | goto l => exact ⟨.goto l, a₁, w₁, hq, fun k' hk => harr k' (by simp [gotoIn, hk])⟩
      | ret => exact ⟨_, a₁, w₁, hq, harr⟩
      | panic ch => exact ⟨_, a₁, w₁, hq, harr⟩
      | outgrown => exact ⟨_, a₁, w₁, hq, harr⟩
  obtain ⟨e, a₁, w₁, hq, harr⟩ := key m0 a w h₀
  exact ⟨e, a₁, w₁, hq, .of_steps (.one step_loop) harr⟩
theorem told_lens : ∀ (ds : List (List UInt8)) (b : List UInt8) (k : Nat), Rc.Told b ds k → ∀ d ∈ ds, d.length ≤ b.length
  | [], _, _, _, d, hd => by cases hd
  | x :: ds, b, k, h, d, hd => by
    rcases List.mem_cons.1 hd with rfl | hd
    · rw [h.2.1]; exact get_len b
    · have := told_lens ds _ _ h.2.2.2 d hd
      rw [List.length_drop] at this
      omega
theorem piece_cells {w : World} {B : Nat} {u : Value} {l : List UInt8} (h : Piece w B u l) : ∀ g, u.ownBlock = some g → ∃ c fz, w.heap[g]? = some (.cells c 5 fz) := by
  rcases h with ⟨rfl, _⟩ | ⟨g1, o, cur1, rfl, _, _, _, e1, _⟩
  · intro g e; cases e
  · intro g e
    obtain rfl : g1 = g := by simpa [Value.ownBlock] using e
    exact ⟨_, _, e1⟩
theorem of_not_mark {w : World} {B D k : Nat} {us : List Value} {ds : List (List UInt8)} {x : Option (List Deferred)} (h : Pieces w B us ds) (hD : w.heap[D]? = some (.deferred x)) (hk : Of us k) : k ≠ D := by
  rintro rfl
  obtain ⟨u, hu, e⟩ := hk
  obtain ⟨j, hj, rfl⟩ := List.getElem_of_mem hu
  obtain ⟨c, fz, hc⟩ := piece_cells (h.2.1 j hj (by rw [← h.1]; exact hj)).1 _ e
  rw [hD] at hc
  cases hc
theorem of_ap {w : World} {B B' n k : Nat} {us ys : List Value} {v : Value} {ds : List (List UInt8)} (h : Pieces w B us ds) (ho : w.ownsRow B' 22 1 v n ys) (hk : Of us k) : v.ownBlock ≠ some k := fun e' => by
  obtain ⟨u, hu, e⟩ := hk
  obtain ⟨j, hj, rfl⟩ := List.getElem_of_mem hu
  exact piece_ap (h.2.1 j hj (by rw [← h.1]; exact hj)).1 ho k e e'
/-- How far the turns are. -/
def It (w0 W : World) (b : List UInt8) (ds : List (List UInt8)) (vk : Value) (aB bW tB : Nat) (m : Nat) (A : Act) (V : World) : Prop :=
  (m = 2 ∧ ∃ qB, Sl w0 A vk aB bW tB qB [] ∧ Below W.heap.size W V ∧ V.heap[qB]? = some (.cells #[.int .i64 0] 3 (0, 0)) ∧ W.heap.size ≤ qB) ∨
  (m = 1 ∧ ∃ V0 D0 qB l0 us0 ds0, Below W.heap.size W V0 ∧ Pt 0 b ds tB (fun x => #[x, .slice none 0 0]) V0 V D0 qB l0 us0 ds0 ∧ Sl w0 A vk aB bW tB qB [mark D0]) ∨
  (m = 0 ∧ ∃ V0 V1 D0 q1 l0 us0 ds0 D1 qB l1 vs, Below W.heap.size W V0 ∧ Pt 0 b ds tB (fun x => #[x, .slice none 0 0]) V0 V1 D0 q1 l0 us0 ds0 ∧ Pt 1 b ds tB (fun x => #[l0, x]) V1 V D1 qB l1 vs ds ∧ Sl w0 A vk aB bW tB qB [mark D1, mark D0])
theorem turns_end {w0 wA W V0 V1 V : World} {stop : Int} {A : Act} {b : List UInt8} {ds ds0 : List (List UInt8)} {tB aB bW bx KK nk D0 D1 q1 qB : Nat} {va vo vk l0 l1 : Value} {us0 vs : List Value} {K Zg : Nat → Prop} (hst : St w0 wA stop) (hb : Below wA.heap.size wA W) (hk : Kz W wA.heap.size nk K vk) (hnk : nk ≤ 8000000) (hTT : Rc.Told b ds KK) (hbl : b.length ≤ 1048576)
    (hg : Keeps Zg W (Sg stop b w0 aB bW bx va vo ds)) (hlt : tB < W.heap.size) (dtg : ¬ Zg tB) (dKt : ¬ K tB) (dKZ : ∀ k, Zg k → ¬ K k) (htB : wA.heap.size ≤ tB) (h0 : Below W.heap.size W V0) (p0 : Pt 0 b ds tB (fun x => #[x, .slice none 0 0]) V0 V1 D0 q1 l0 us0 ds0) (p1 : Pt 1 b ds tB (fun x => #[l0, x]) V1 V D1 qB l1 vs ds) (hsl : Sl w0 A vk aB bW tB qB [mark D1, mark D0]) : Goes 38 w0 A V := by
  obtain ⟨a1, a2, a3, a4, ⟨k0, a5⟩, _, a7, a8, a9, a10⟩ := p0
  obtain ⟨b1, b2, b3, b4, _, _, b7, b8, b9, b10⟩ := p1
  have s0 := h0.size
  have s1 := a1.2.2.2.1
  have s2 := b1.2.2.2.1
  have sA := hb.size
  have hm : Mv W V (fun k => k = tB) := ((Mv.of h0).mono (S' := fun k => k = tB) (fun _ _ e => e.elim)).trans a1 (fun _ _ e => e) |>.trans b1 (fun _ _ e => e)
  have ltD0 := lt_of_block a7
  have p0V : Pieces V V0.heap.size us0 ds0 := ((pieces_keep a4).mv b1 (fun k ⟨u, hu, e⟩ e' => by have := (a4.lt u hu k e).1; omega)).here
  have l0V : V.ownsRow V0.heap.size 22 1 l0 ds0.length us0 := own_on a3 (fun k e => b1.2.2.2.2 k (a3.lt k e).2 (fun e' => by have := (a3.lt k e).1; omega))
  have d0V : V.heap[D0]? = some (.deferred (some [])) := (b1.2.2.2.2 D0 ltD0 (fun e => by omega)).trans a7
  have hgV := hg.mv hm (fun k e e' => by rw [e'] at e; exact dtg e)
  have hcnt := hTT.count
  have hle := hTT.le
  have hc0 := a5.count
  have hl0 := a5.le
  obtain ⟨hs, hd, h3, h4, h5, h24, h38, h41, h42⟩ := hsl
  have Ulo : ∀ k, Of us0 k → V0.heap.size ≤ k ∧ k < V1.heap.size := fun k ⟨u, hu, e⟩ => a4.lt u hu k e
  have Vlo : ∀ k, Of vs k → V1.heap.size ≤ k ∧ k < V.heap.size := fun k ⟨u, hu, e⟩ => b4.lt u hu k e
  have L0 : ∀ k, l0.ownBlock = some k → V0.heap.size ≤ k ∧ k < V1.heap.size := fun k e => a3.lt k e
  have L1 : ∀ k, l1.ownBlock = some k → V1.heap.size ≤ k ∧ k < V.heap.size := fun k e => b3.lt k e
  have th : Keeps (fun k => Zg k ∨ k = tB ∨ l0.ownBlock = some k ∨ l1.ownBlock = some k ∨ k = D0 ∨ k = D1) V (Tl aB tB D0 D1 va l0 l1 us0 vs ds0.length ds) := by
    refine ⟨fun k e => ?_, fun V' hs' hv => ?_⟩
    · rcases e with e | e | e | e | e | e
      · exact hgV.1 k e
      · omega
      · have := (L0 k e).2; omega
      · exact (L1 k e).2
      · omega
      · rw [e]; exact lt_of_block b7
    · refine ⟨(hv tB (.inr (.inl rfl))).trans b2, own_low (own_on l0V (fun k e => hv k (.inr (.inr (.inl e))))) (Nat.zero_le _), own_low (own_on b3 (fun k e => hv k (.inr (.inr (.inr (.inl e)))))) (Nat.zero_le _), (hgV.2 V' hs' (fun k e => hv k (.inl e))).2.1, (hv D0 (.inr (.inr (.inr (.inr (.inl rfl)))))).trans d0V, (hv D1 (.inr (.inr (.inr (.inr (.inr rfl)))))).trans b7⟩
  refine seg38 hst (hb.trans (hm.below hb.size (fun k e => by rw [e]; exact htB))) (hk.mv hm (fun k e e' => by rw [e'] at e; exact dKt e)) hnk (by omega) (fun d hd' => by have := told_lens ds b KK hTT d hd'; omega) (fun d hd' => by have := told_lens ds0 b k0 a5 d hd'; omega) (by omega) (pieces_low b4 (by omega)) (pieces_low p0V (by omega)) th ?_ ?_ ?_ ?_ ?_ ?_ (by omega) (by omega) (by omega) hs hd h4 h5 h24 h41
  · intro k e hK
    have hkk := (hk.lt k hK).2
    rcases e with e | e | e | e | e | e
    · exact dKZ k e hK
    · rw [e] at hK; exact dKt hK
    · have := (L0 k e).1; omega
    · have := (L1 k e).1; omega
    · omega
    · omega
  · intro k hU e
    have h1 := Ulo k hU
    rcases e with e | e | e | e | e | e
    · have := hg.1 k e; omega
    · omega
    · exact of_ap p0V l0V hU e
    · have := (L1 k e).1; omega
    · exact of_not_mark a4 a7 hU e
    · omega
  · intro k hU e
    have h1 := Vlo k hU
    rcases e with e | e | e | e | e | e
    · have := hg.1 k e; omega
    · omega
    · have := (L0 k e).2; omega
    · exact of_ap b4 b3 hU e
    · omega
    · exact of_not_mark b4 b7 hU e
  · intro k hU hK
    have h1 := Ulo k hU
    have := (hk.lt k hK).2
    omega
  · intro k hU hK
    have h1 := Vlo k hU
    have := (hk.lt k hK).2
    omega
  · intro k hV hU
    have h1 := Vlo k hV
    have h2 := Ulo k hU
    omega
set_option maxHeartbeats 8000000 in
theorem seg37 {w0 wA W : World} {stop : Int} {A : Act} {b : List UInt8} {ds : List (List UInt8)} {tB aB bW bx KK nk : Nat} {va vo vk : Value} {K Zg : Nat → Prop} (hst : St w0 wA stop) (hb : Below wA.heap.size wA W) (hk : Kz W wA.heap.size nk K vk) (hnk : nk ≤ 8000000) (hTT : Rc.Told b ds KK) (hT0 : (Rc.get (b.drop KK)).2 = 0) (hbl : b.length ≤ 1048576) (hnv : NilOr vo)
    (hg : Keeps Zg W (Sg stop b w0 aB bW bx va vo ds)) (ht : W.heap[tB]? = some (.cells #[.slice none 0 0, .slice none 0 0] 56 (0, 0))) (dtg : ¬ Zg tB) (dKt : ¬ K tB) (dKZ : ∀ k, Zg k → ¬ K k) (htB : wA.heap.size ≤ tB)
    (hs : A.tmps.size = 464) (hd : A.defers = []) (h3 : A.tmps.getD 3 undef = .pointer (some ⟨w0.heap.size, 0, none⟩)) (h4 : A.tmps.getD 4 undef = .pointer (some ⟨w0.heap.size + 1, 0, none⟩)) (h5 : A.tmps.getD 5 undef = vk) (h24 : A.tmps.getD 24 undef = .pointer (some ⟨aB, 0, none⟩)) (h38 : A.tmps.getD 38 undef = .pointer (some ⟨bW, 0, none⟩)) (h41 : A.tmps.getD 41 undef = .pointer (some ⟨tB, 0, none⟩)) :
    Goes 37 w0 A W := by
  obtain ⟨s, eA, hsk⟩ := act_open A _ hs hd
  rw [hsk] at h3 h4 h5 h24 h38 h41
  rw [eA, h3, h4, h5, h24, h38, h41]
  clear eA hsk h3 h4 h5 h24 h38 h41 hs hd
  have HE : Hid (∀ (A' : Act) (V0 V1 V : World) (D0 q1 : Nat) (l0 : Value) (us0 : List Value) (ds0 : List (List UInt8)) (D1 qB : Nat) (l1 : Value) (vs : List Value), Below W.heap.size W V0 → Pt 0 b ds tB (fun x => #[x, .slice none 0 0]) V0 V1 D0 q1 l0 us0 ds0 → Pt 1 b ds tB (fun x => #[l0, x]) V1 V D1 qB l1 vs ds → Sl w0 A' vk aB bW tB qB [mark D1, mark D0] → Goes 38 w0 A' V) :=
    fun A' V0 V1 V D0 q1 l0 us0 ds0 D1 qB l1 vs h0 p0 p1 hsl => turns_end hst hb hk hnk hTT hbl hg (lt_of_block ht) dtg dKt dKZ htB h0 p0 p1 hsl
  have HH := hide (And.intro hTT (And.intro hT0 (And.intro hg (And.intro ht dtg))))
  clear hTT hT0 hg ht dtg dKt dKZ htB hst hb hk
  unfold Goes
  conv => arg 2; whnf
  refine goes_seq (k := 38) ?_
  go_wp2_with fail
  refine loop_ghost (It w0 W b ds vk aB bW tB) 2 (.inl ⟨rfl, W.heap.size, ⟨rfl, rfl, rfl, rfl, rfl, rfl, rfl, rfl, rfl⟩, (Below.refl _ W).alloc (Nat.le_refl _) _, Array.getElem?_push_size, Nat.le_refl _⟩) ?_
  intro m A1 V hI
  obtain ⟨hTT, hT0, hg, ht, dtg⟩ := HH.out
  have ltt := lt_of_block ht
  rcases hI with ⟨rfl, qB, hsl, h0, hq, hqW⟩ | ⟨rfl, V0, D0, qB, l0, us0, ds0, h0, p0, hsl⟩ | ⟨rfl, V0, V1, D0, q1, l0, us0, ds0, D1, qB, l1, vs, h0, p0, p1, hsl⟩
  · exact turn0 (_l0 := .nilIface) hTT hT0 hbl hnv (hg.later h0) hq ((h0.block tB ltt).trans ht) dtg (by omega) hsl (fun A' W' D qB' lt us ds' hpt hsl' => ⟨1, by omega, .inr (.inl ⟨rfl, V, D, qB', lt, us, ds', h0, hpt, hsl'⟩)⟩)
  · have s0 := h0.size
    refine turn1 hTT hT0 hbl hnv ((hg.later h0).mv p0.1 (fun k e e' => by rw [e'] at e; exact dtg e)) (by simpa using p0.2.2.2.2.2.2.2.2.1) p0.2.1 dtg (by have := p0.2.2.2.2.2.2.2.2.2; omega) hsl (fun A' W' D qB' lt us ds' hpt hsl' => ?_)
    obtain rfl := hpt.2.2.2.2.2.1 rfl
    exact ⟨0, by omega, .inr (.inr ⟨rfl, V0, V, D0, qB, l0, us0, ds0, D, qB', lt, us, h0, p0, hpt, hsl'⟩)⟩
  · have hE := HE.out
    have cq : V.cell? ⟨qB, 0, none⟩ = some (.int .i64 2) := (cell_of_row _ _ 0 _ 3 (0, 0) p1.2.2.2.2.2.2.2.2.1).trans rfl
    have HEE := hide (fun (A' : Act) => HE.out A' V0 V1 V D0 q1 l0 us0 ds0 D1 qB l1 vs h0 p0 p1)
    obtain ⟨hs, hd, h3, h4, h5, h24, h38, h41, h42⟩ := hsl
    obtain ⟨s', eA, hsk⟩ := act_open A1 _ hs hd
    rw [hsk] at h3 h4 h5 h24 h38 h41 h42
    rw [eA, h3, h4, h5, h24, h38, h41, h42]
    clear eA hsk h3 h4 h5 h24 h38 h41 h42 hs hd hE HE HH hTT hT0 hg ht dtg ltt h0 p0 p1
    go_wp2_with fail
    exact HEE.out _ ⟨rfl, rfl, rfl, rfl, rfl, rfl, rfl, rfl, rfl⟩
end Go.Proofs.Ytkohlhnkaklnpaa

/-
  RecordReads: Walk is asked for, and what was lent is written over.
-/
namespace Go.Proofs.Ytkohlhnkaklnpaa
open Go.RowKit Go.Shelf
attribute [local go_sem] Oper.semAt_some
set_option maxRecDepth 100000
set_option maxHeartbeats 8000000 in
theorem seg31 {w0 wA W : World} {stop : Int} {A : Act} {b : List UInt8} {ds : List (List UInt8)} {aB KK nk c : Nat} {ao : Option Addr} {va vk : Value} {K Za : Nat → Prop} (hst : St w0 wA stop) (hb : Below wA.heap.size wA W) (hk : Kz W wA.heap.size nk K vk) (hnk : nk ≤ 8000000) (hTT : Rc.Told b ds KK) (hT0 : (Rc.get (b.drop KK)).2 = 0) (hbl : b.length ≤ 1048576)
    (hv : Bs w0 (.slice ao b.length c) b) (hal : Keeps Za W (Al aB va ds)) (dKZ : ∀ k, Za k → ¬ K k)
    (hs : A.tmps.size = 464) (hd : A.defers = []) (h0 : A.tmps.getD 0 undef = .slice ao b.length c) (h3 : A.tmps.getD 3 undef = .pointer (some ⟨w0.heap.size, 0, none⟩)) (h4 : A.tmps.getD 4 undef = .pointer (some ⟨w0.heap.size + 1, 0, none⟩)) (h5 : A.tmps.getD 5 undef = vk) (h24 : A.tmps.getD 24 undef = .pointer (some ⟨aB, 0, none⟩)) :
    Goes 31 w0 A W := by
  obtain ⟨s, eA, hsk⟩ := act_open A _ hs hd
  rw [hsk] at h0 h3 h4 h5 h24
  rw [eA, h0, h3, h4, h5, h24]
  clear eA hsk h0 h3 h4 h5 h24 hs hd
  have hsA := hst.2.2.2
  have hsW := hb.size
  have hvb : 0 < b.length → ∀ k, (Value.slice ao b.length c).ownBlock = some k → k < w0.heap.size := bs_block hv
  have hvW : Bs W (.slice ao b.length c) b := hv.below (hst.down hb) (Nat.le_refl _)
  have hcc : b.length ≤ c ∧ c ≤ 9223372036854775807 := by
    obtain ⟨ao', c', e, h1, h2, _⟩ := hv
    simp only [Value.slice.injEq] at e
    obtain ⟨_, _, rfl⟩ := e
    unfold maxLen at h2
    exact ⟨h1, by omega⟩
  have hlent := lent_any _ b W hvW (by omega)
  have HL := hide hlent
  have HH := hide (And.intro hst (And.intro hb (And.intro hk (And.intro hTT (And.intro hT0 (And.intro hv (And.intro hal (And.intro dKZ (And.intro hvb hvW)))))))))
  obtain ⟨hc1, hc2⟩ := hcc
  obtain ⟨n, hn⟩ : ∃ n, n = b.length := ⟨_, rfl⟩
  have HN := hide hn
  rw [← hn] at HL hbl hc1 ⊢
  clear hlent hst hb hk hTT hT0 hv hal dKZ hvb hvW hn hsA hsW
  unfold Goes
  conv => arg 2; whnf
  refine goes_seq (k := 32) ?_
  go_wp2_with fail
  refine HL.out.mono ?_
  rintro e w1 ⟨rfl, hr1, hb1⟩
  obtain ⟨hst, hb, hk, hTT, hT0, hv, hal, dKZ, hvb, hvW⟩ := HH.out
  have hs1 := hr1.lt
  have hsA := hst.2.2.2
  have hsW := hb.size
  have hbz : Bs w1 (.slice (some ⟨W.heap.size, 0, none⟩) b.length (b.length + 8)) b := by
    have := hr1.bs (n := b.length) (c := b.length + 8) (by simp) (by have := HN.out; omega) (by unfold maxLen; have := HN.out; omega)
    rwa [List.take_left] at this
  have hwalk := walk_any _ _ w1 hbz (.inr ⟨_, _, _, rfl⟩) (by have := HN.out; omega)
  rw [← HN.out] at hwalk
  have HWK := hide hwalk
  have H1 := hide (And.intro hr1 (And.intro hb1 hs1))
  clear hr1 hb1 hs1 hbz hwalk hst hb hk hTT hT0 hv hal dKZ hvb hvW hsA hsW HL
  have hx8 : n ≤ n + 8 := by omega
  go_wp2_with fail
  unfold Goes
  conv => arg 2; whnf
  refine goes_seq (k := 33) ?_
  go_wp2_with fail
  refine HWK.out.mono ?_
  rintro e w2 ⟨bx, vo, rfl, hbx, hbo, hov, hb2⟩
  have H2 := hide (And.intro hbx (And.intro hbo (And.intro hov hb2)))
  clear hbx hbo hov hb2 HWK
  go_wp2_with fail
  have hbB : w2.heap.size < (w2.alloc (.cells #[.func (.func 32) #[] #[.pointer (some ⟨bx, 0, none⟩)]] 45)).heap.size := by simp
  have hboxW : (w2.alloc (.cells #[.func (.func 32) #[] #[.pointer (some ⟨bx, 0, none⟩)]] 45)).heap[w2.heap.size]? = some (.cells #[.func (.func 32) #[] #[.pointer (some ⟨bx, 0, none⟩)]] 45 (0, 0)) := heap_alloc_new w2 _
  have hb3 : Below w2.heap.size w2 (w2.alloc (.cells #[.func (.func 32) #[] #[.pointer (some ⟨bx, 0, none⟩)]] 45)) := (Below.refl _ w2).alloc (Nat.le_refl _) _
  generalize w2.alloc (.cells #[.func (.func 32) #[] #[.pointer (some ⟨bx, 0, none⟩)]] 45) = w3 at *
  obtain ⟨hst, hb, hk, hTT, hT0, hv, hal, dKZ, hvb, hvW⟩ := HH.out
  obtain ⟨hr1, hb1, hs1⟩ := H1.out
  obtain ⟨hbx, hbo, hov, hb2⟩ := H2.out
  have s2 := hb2.size
  have s3 := hb3.size
  have b13 : Below w1.heap.size w1 w3 := hb2.trans (hb3.mono hb2.size)
  have bW3 : Below W.heap.size W w3 := hb1.trans (b13.mono hb1.size)
  have hr3 : Row w3 W.heap.size (b ++ List.replicate 8 201) := hr1.below b13 hs1
  have hsA := hst.2.2.2
  have hsW := hb.size
  have hstill := still_row W.heap.size (.slice ao b.length c) b w3 (by have := HN.out; omega) hr3 (hvW.below bW3 (Nat.le_refl _)) (fun h g' e => by have := hvb h g' e; omega)
  rw [← HN.out] at hstill
  have HSTL := hide hstill
  have H3 := hide (And.intro hboxW (And.intro b13 (And.intro bW3 (And.intro (hb3.block bx (lt_of_block hbo) |>.trans hbo) (own_on hov (fun k e => hb3.block k (hov.lt k e).2))))))
  have H3b := hide (hov.lt)
  have SZ := hide (And.intro hbx (And.intro s2 (And.intro s3 (And.intro hs1 (And.intro hsA (And.intro hsW (lt_of_block hbo)))))))
  clear hstill hst hb hk hTT hT0 hv hal dKZ hvb hvW hr1 hb1 hs1 hbx hbo hov hb2 s2 s3 b13 bW3 hr3 hsA hsW hboxW hb3 hbB H1 H2
  unfold Goes
  conv => arg 2; whnf
  refine goes_seq (k := 34) ?_
  go_wp2_with fail
  refine HSTL.out.mono ?_
  rintro e w4 ⟨rfl, hr4, hg4⟩
  obtain ⟨hst, hb, hk, hTT, hT0, hv, hal, dKZ, hvb, hvW⟩ := HH.out
  obtain ⟨hboxW, b13, bW3, hbx3, hov3⟩ := H3.out
  have hm4 : Mv W w4 (fun _ => False) := ⟨hg4.os.trans bW3.os, hg4.tape.trans bW3.tape, hg4.output.trans bW3.output, Nat.le_trans bW3.size hg4.size, fun k hk' _ => (hg4.block k (by have := bW3.size; omega) (fun e => by have := Option.some.inj e; omega)).trans (bW3.block k hk')⟩
  have q4 : ∀ k, k < w3.heap.size → k ≠ W.heap.size → w4.heap[k]? = w3.heap[k]? := fun k hk' hne => hg4.block k hk' (fun e => hne (Option.some.inj e))
  have hk4 : Kz w4 wA.heap.size nk K vk := hk.mv hm4 (fun _ _ e => e)
  have hlk := looks_kz (fun hs' h => looks_any wA.heap.size vk hs' w4 h) hk4
  obtain ⟨hbx, s2, s3, hs1, hsA, hsW, hltb⟩ := SZ.out
  have box4 : w4.heap[w2.heap.size]? = some (.cells #[.func (.func 32) #[] #[.pointer (some ⟨bx, 0, none⟩)]] 45 (0, 0)) := (q4 _ (lt_of_block hboxW) (by omega)).trans hboxW
  have bx4 : w4.heap[bx]? = some (.cells #[vo] 22 (0, 0)) := (q4 bx (by omega) (by omega)).trans hbx3
  have ov4 : w4.ownsRow w1.heap.size 5 1 vo b.length (Lib.byteCells b) := by
    have := own_on hov3 (fun k e => q4 k (hov3.lt k e).2 (by have := (hov3.lt k e).1; omega))
    rw [← HN.out]
    exact this
  have HLK := hide hlk
  have H4 := hide (And.intro hm4 (And.intro hk4 (And.intro box4 (And.intro bx4 ov4))))
  have S4 : Hid (W.heap.size ≤ w4.heap.size ∧ w3.heap.size ≤ w4.heap.size) := ⟨hm4.2.2.2.1, hg4.size⟩
  clear hlk hst hb hk hTT hT0 hv hal dKZ hvb hvW hboxW b13 bW3 hbx3 hov3 hm4 q4 hk4 hbx s2 s3 hs1 hsA hsW hltb box4 bx4 ov4 hr4 hg4 HSTL H3
  go_wp2_with fail
  unfold Goes
  conv => arg 2; whnf
  refine goes_seq (k := 35) ?_
  go_wp2_with fail
  refine HLK.out.mono ?_
  rintro e w5 ⟨rfl, dd, rfl⟩
  have cb4 : w4.cell? ⟨w2.heap.size, 0, none⟩ = some (.func (.func 32) #[] #[.pointer (some ⟨bx, 0, none⟩)]) := (cell_of_row _ _ 0 _ 45 (0, 0) H4.out.2.2.1).trans rfl
  have hq := run_func_nil
  clear HLK
  go_wp2_with fail
  unfold Goes
  conv => arg 2; whnf
  refine goes_seq (k := 36) ?_
  go_wp2_with fail
  unfold Goes
  conv => arg 2; whnf
  refine goes_seq (k := 37) ?_
  go_wp2_with fail
  obtain ⟨hst, hb, hk, hTT, hT0, hv, hal, dKZ, hvb, hvW⟩ := HH.out
  obtain ⟨hm4, hk4, box4, bx4, ov4⟩ := H4.out
  obtain ⟨hbx, s2, s3, hs1, hsA, hsW, hltb⟩ := SZ.out
  obtain ⟨sW4, s34⟩ := S4.out
  have b46 : Below w4.heap.size w4 ((w4.drewN dd).alloc (.cells #[.slice none 0 0, .slice none 0 0] 56)) := ⟨rfl, rfl, rfl, by simp, fun k hk' => Below.heap_alloc (w4.drewN dd) _ k hk'⟩
  have told : ((w4.drewN dd).alloc (.cells #[.slice none 0 0, .slice none 0 0] 56)).heap[w4.heap.size]? = some (.cells #[.slice none 0 0, .slice none 0 0] 56 (0, 0)) := heap_alloc_new (w4.drewN dd) _
  have hb4 : Below wA.heap.size wA w4 := hb.trans (hm4.below hb.size (fun _ e => e.elim))
  have hal4 := hal.mv hm4 (fun _ _ e => e)
  have hZ : Keeps (fun k => Za k ∨ k = w0.heap.size ∨ k = w2.heap.size ∨ k = bx ∨ vo.ownBlock = some k) w4 (Sg stop b w0 aB w2.heap.size bx va vo ds) := by
    refine ⟨fun k e => ?_, fun V hs' hv' => ⟨(hv' _ (.inr (.inl rfl))).trans (hst.halt hb4), hal4.2 V hs' (fun k e => hv' k (.inl e)), (hv' _ (.inr (.inr (.inl rfl)))).trans box4, (hv' _ (.inr (.inr (.inr (.inl rfl))))).trans bx4, own_low (own_on ov4 (fun k e => hv' k (.inr (.inr (.inr (.inr e)))))) (Nat.zero_le _)⟩⟩
    rcases e with e | e | e | e | e
    · exact hal4.1 k e
    · omega
    · rw [e]; exact lt_of_block box4
    · rw [e]; exact lt_of_block bx4
    · exact (ov4.lt k e).2
  refine seg37 hst (hb4.trans (b46.mono hb4.size)) (hk4.later b46) hnk hTT hT0 (by have := HN.out; omega) (own_nilOr ov4) (hZ.later b46) told (fun e => ?_) (fun e => ?_) (fun k e hK => ?_) (by omega) rfl rfl rfl rfl rfl rfl rfl rfl
  · have := hZ.1 _ e
    omega
  · have := (hk.lt _ e).2
    omega
  · have hkk := hk.lt k hK
    rcases e with e | e | e | e | e
    · exact dKZ k e hK
    · omega
    · omega
    · omega
    · have := (ov4.lt k e).1
      omega
end Go.Proofs.Ytkohlhnkaklnpaa

/-
  RecordReads: the two lists are as their owner wrote them.
-/
namespace Go.Proofs.Ytkohlhnkaklnpaa
open Go.RowKit Go.Shelf
attribute [local go_sem] Oper.semAt_some
set_option maxRecDepth 100000
set_option maxHeartbeats 8000000 in
theorem seg28 {w0 wA W : World} {stop : Int} {A : Act} {b : List UInt8} {ds : List (List UInt8)} {aB KK nk c : Nat} {ao : Option Addr} {va vk : Value} {K Z : Nat → Prop} {b1 m1 n1 b2 m2 n2 : Nat} {v29 v32 : Value} (hst : St w0 wA stop) (hb : Below wA.heap.size wA W) (hk : Kz W wA.heap.size nk K vk) (hnk : nk ≤ 8000000) (hTT : Rc.Told b ds KK) (hT0 : (Rc.get (b.drop KK)).2 = 0) (hbl : b.length ≤ 1048576) (hv : Bs w0 (.slice ao b.length c) b) (hal : Keeps Z W (Al aB va ds)) (dKZ : ∀ k, Z k → ¬ K k)
    (hw1 : Wr W b1 m1 v29 n1 n1 [102, 105, 114, 115, 116]) (hw2 : Wr W b2 m2 v32 n2 n2 [115, 101, 99, 111, 110, 100])
    (hs : A.tmps.size = 464) (hd : A.defers = []) (h0 : A.tmps.getD 0 undef = .slice ao b.length c) (h3 : A.tmps.getD 3 undef = .pointer (some ⟨w0.heap.size, 0, none⟩)) (h4 : A.tmps.getD 4 undef = .pointer (some ⟨w0.heap.size + 1, 0, none⟩)) (h5 : A.tmps.getD 5 undef = vk) (h24 : A.tmps.getD 24 undef = .pointer (some ⟨aB, 0, none⟩)) (h29 : A.tmps.getD 29 undef = v29) (h32 : A.tmps.getD 32 undef = v32) : Goes 28 w0 A W := by
  obtain ⟨s, eA, hsk⟩ := act_open A _ hs hd
  rw [hsk] at h0 h3 h4 h5 h24 h29 h32
  rw [eA, h0, h3, h4, h5, h24, h29, h32]
  clear eA hsk h0 h3 h4 h5 h24 h29 h32 hs hd
  have w1 := written_any b1 m1 n1 v29 _ W hw1
  have w2 := written_any b2 m2 n2 v32 _ W hw2
  have HE := hide (fun (A' : Act) => seg31 (A := A') hst hb hk hnk hTT hT0 hbl hv hal dKZ)
  have HW1 := hide w1
  have HW2 := hide w2
  clear hst hb hk hTT hT0 hv hal dKZ hw1 hw2 w1 w2
  unfold Goes
  conv => arg 2; whnf
  refine goes_seq (k := 29) ?_
  go_wp2_with fail
  refine HW1.out.mono ?_
  rintro e w' ⟨rfl, rfl⟩
  go_wp2_with fail
  unfold Goes
  conv => arg 2; whnf
  refine goes_seq (k := 30) ?_
  go_wp2_with fail
  refine HW2.out.mono ?_
  rintro e w' ⟨rfl, rfl⟩
  go_wp2_with fail
  unfold Goes
  conv => arg 2; whnf
  refine goes_seq (k := 31) ?_
  go_wp2_with fail
  exact HE.out _ rfl rfl rfl rfl rfl rfl rfl
end Go.Proofs.Ytkohlhnkaklnpaa
