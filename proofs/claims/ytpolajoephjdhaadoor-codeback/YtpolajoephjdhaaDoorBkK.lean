/-
  CodeBack.
-/
import Derived.Test.YtpolajoephjdhaaDoorBkN
import Derived.Test.YtpolajoephjdhaaDoorShD
namespace Go.Proofs.YtpolajoephjdhaaDoor
open Go.RowKit
set_option maxRecDepth 1000000
theorem flatL_len {α : Type} (f : α → List UInt8) (M : Nat) : ∀ (l : List α), (∀ x ∈ l, (f x).length ≤ M) → (l.flatMap f).length ≤ l.length * M
  | [], _ => by simp
  | x :: l, h => by
    have h1 := h x (List.mem_cons_self ..)
    have h2 := flatL_len f M l (fun y hy => h y (List.mem_cons_of_mem _ hy))
    rw [List.flatMap_cons, List.length_append, List.length_cons, Nat.succ_mul]
    omega
theorem pgBy_len {p : Pg} (hm : mayOk p = true) (h1 : ∀ y ∈ p.sys, Sy6 y) (h2 : ∀ y ∈ p.fns, Rt6 y) : (pgBy p).length ≤ 2000000 := by
  unfold mayOk at hm
  simp only [Bool.and_eq_true, decide_eq_true_eq] at hm
  obtain ⟨⟨⟨⟨a1, a2⟩, a3⟩, a4⟩, -⟩ := hm
  have k1 := flatL_len sysBy 42000 p.sys (fun y hy => sysBy_len (List.all_eq_true.1 a3 y hy) (h1 y hy))
  have k2 := flatL_len rtBy 41000 p.fns (fun y hy => rtBy_len (List.all_eq_true.1 a4 y hy) (h2 y hy))
  have k3 := uv_len (n := p.sys.length) (by omega)
  have k4 := uv_len (n := p.fns.length) (by omega)
  unfold pgBy
  simp only [List.length_append]
  omega
theorem listL_len {r : Rt} (h : lstOk r = true) (h1 : I6 r.pa) (h2 : I6 r.lo) (h3 : ∀ i ∈ r.code, I6 i.a) : 0 < (listL r).length ∧ (listL r).length ≤ 100000 := by
  obtain ⟨a1, -⟩ := lstOk_code h
  obtain ⟨⟨-, b2⟩, -⟩ := rtOk_all (lstOk_rt h)
  have k1 := flatL_len lineL 28 r.code (fun i hi => by
    have := lineB_size (h3 i hi)
    unfold lineL
    rw [List.length_append, Array.length_toList]
    show (lineB i).size + 1 ≤ 28
    omega)
  have k2 := headL_len (nm := r.name) h1 h2
  unfold listL
  rw [if_pos h, List.length_append]
  have k3 : 0 < (headL r.name r.pa r.lo).length := by unfold headL; simp
  unfold codeL
  omega
theorem listB_no {r : Rt} (h : lstOk r = false) : listB r = ⟨#[]⟩ := by
  unfold listB listL
  rw [h]
  rfl
theorem Pgm.later {Q : Nat → Prop} {W W' : World} {vs vf : Value} {p : Pg} (h : Pgm Q W vs vf p) (hb : Below W.heap.size W W') : Pgm Q W' vs vf p := ⟨h.1.later hb, h.2.later hb⟩
theorem enc_form {W : World} {p : Pg} {e : Ending} {w' : World} (h : EnOut W p e w') : Below W.heap.size W w' ∧ ∃ vx er, e = .returned (.tuple #[vx, .int .i64 er]) ∧ ((er = 0 ∧ mayOk p = true ∧ w'.ownsRow W.heap.size 5 1 vx (pgBy p).length (Lib.byteCells (pgBy p))) ∨ (er = 130 ∧ mayOk p = false)) := by
  obtain ⟨h1, h2⟩ := h
  by_cases hm : mayOk p = true
  · rw [if_pos hm] at h2
    obtain ⟨v, h3, h4⟩ := h2
    exact ⟨h1, v, 0, h3, .inl ⟨rfl, hm, h4⟩⟩
  · rw [if_neg hm] at h2
    exact ⟨h1, _, 130, h2, .inr ⟨rfl, by simpa using hm⟩⟩
theorem dec_form {W : World} {x : Nat ⊕ Pg} {e : Ending} {w' : World} (h : DcOut W x e w') : Below W.heap.size W w' ∧ ∃ a n c a' n' c' ev, e = .returned (.tuple #[.agg #[.slice a n c, .slice a' n' c'], ev]) ∧ ((ev = .nilIface ∧ ∃ q, x = .inr q ∧ PgOwn W.heap.size w' q (.slice a n c) (.slice a' n' c')) ∨ ∃ N, ev = .iface 78 (.pointer (some ⟨N, 0, none⟩))) := by
  obtain ⟨h1, h2⟩ := h
  cases x with
  | inl a =>
    obtain ⟨N, h3, -⟩ := h2
    exact ⟨h1, _, _, _, _, _, _, _, h3, .inr ⟨N, rfl⟩⟩
  | inr q =>
    obtain ⟨vs, vf, h3, h4⟩ := h2
    obtain ⟨ls, lf, e1, e2, o1, o2, r3⟩ := id h4
    obtain ⟨a, c, rfl⟩ := own_len o1
    obtain ⟨a', c', rfl⟩ := own_len o2
    exact ⟨h1, _, _, _, _, _, _, _, h3, .inl ⟨rfl, q, rfl, h4⟩⟩
theorem rd_form {W : World} {x : Nat ⊕ Rt} {e : Ending} {w' : World} (h : RdOut W x e w') : Below W.heap.size W w' ∧ ∃ n pa lo a m c ev, e = .returned (.tuple #[.agg #[.string n, .int .i64 pa, .int .i64 lo, .slice a m c], ev]) ∧ ((ev = .nilIface ∧ ∃ r : Rt, x = .inr r ∧ r.name = n ∧ r.pa = pa ∧ r.lo = lo ∧ w'.ownsRow W.heap.size 23 2 (.slice a m c) r.code.length (insC r.code)) ∨ ∃ N, ev = .iface 78 (.pointer (some ⟨N, 0, none⟩))) := by
  obtain ⟨h1, h2⟩ := h
  cases x with
  | inl a =>
    obtain ⟨N, h3, -⟩ := h2
    exact ⟨h1, _, _, _, _, _, _, _, h3, .inr ⟨N, rfl⟩⟩
  | inr r =>
    obtain ⟨vc, h3, h4⟩ := h2
    obtain ⟨a, c, rfl⟩ := own_len h4
    exact ⟨h1, _, _, _, _, _, _, _, h3, .inl ⟨rfl, r, rfl, rfl, rfl, rfl, h4⟩⟩
/-- What is written is read as the same program. -/
theorem enc_dec {Q : Nat → Prop} {W w : World} {vs vf v : Value} {p : Pg} {B : Nat} (h : Pgm Q W vs vf p) (hm : mayOk p = true) (ho : w.ownsRow B 5 1 v (pgBy p).length (Lib.byteCells (pgBy p))) (ht : Tb w) : Calls Tryd.prog 13 #[v] w fun e w' => Below w.heap.size w w' ∧ ∃ a n c a' n' c', e = .returned (.tuple #[.agg #[.slice a n c, .slice a' n' c'], .nilIface]) ∧ Pgm Qt w' (.slice a n c) (.slice a' n' c') p := by
  obtain ⟨s1, s2⟩ : (∀ y ∈ p.sys, Sy6 y) ∧ ∀ y ∈ p.fns, Rt6 y := ⟨h.1.six, h.2.six⟩
  have hl : (pgBy p).length ≤ 281474976710656 := by have := pgBy_len hm s1 s2; omega
  refine (decode_any (pgBy p) (own_bs ho) hl ht).mono ?_
  intro e w' ho'
  rw [dec_fwd hm s1 s2] at ho'
  obtain ⟨hb, us, uf, he, hp⟩ := ho'
  have hq := hp.pgm hm s1 s2
  obtain ⟨⟨a, c, rfl, -⟩, a', c', rfl, -⟩ := id hq
  exact ⟨hb, _, _, _, _, _, _, he, hq⟩
set_option maxHeartbeats 8000000 in
theorem back_any {Q Q' : Nat → Prop} {W : World} {vs vf vc vb : Value} {p : Pg} {r : Rt} {b : List UInt8} {s : ByteArray} (hp : Pgm Q W vs vf p) (hr : Il Q' W vc r.code) (i1 : I6 r.pa) (i2 : I6 r.lo) (hb : Bs W vb b) (hbl : b.length ≤ 281474976710656) (hs : s.size ≤ 281474976710656) (hk : Kd W) : Calls Tryd.prog 4 #[.agg #[vs, vf], .agg #[.string r.name, .int .i64 r.pa, .int .i64 r.lo, vc], vb, .string s] W fun e w' => e = .returned (.bool true) ∧ Below W.heap.size W w' := by
  obtain ⟨w0, hw0⟩ : ∃ X, X = W.alloc (.cells #[vs, vf] 36) := ⟨_, rfl⟩
  obtain ⟨w1, hw1⟩ : ∃ X, X = w0.alloc (.cells #[.string r.name, .int .i64 r.pa, .int .i64 r.lo, vc] 30) := ⟨_, rfl⟩
  have B0 : Below W.heap.size W w0 := hw0 ▸ below_alloc W _
  have B1 : Below w0.heap.size w0 w1 := hw1 ▸ below_alloc w0 _
  obtain ⟨P, hP⟩ : ∃ B, B = W.heap.size := ⟨_, rfl⟩
  have e0 : w0.heap.size = W.heap.size + 1 := by rw [hw0]; exact Array.size_push ..
  obtain ⟨R, hR⟩ : ∃ B, B = w0.heap.size := ⟨_, rfl⟩
  have n0 : w0.heap[P]? = some (.cells #[vs, vf] 36 (0, 0)) := by rw [hw0, hP]; exact heap_alloc_new W _
  have n1 : w1.heap[R]? = some (.cells #[.string r.name, .int .i64 r.pa, .int .i64 r.lo, vc] 30 (0, 0)) := by rw [hw1, hR]; exact heap_alloc_new w0 _
  have n2 := (B1.block P (lt_of_block n0)).trans n0
  have Y1 := hide (below_on B0 B1)
  have AT : Hid (∀ w', Below w1.heap.size w1 w' → (w'.cell? ⟨P, 0, none⟩ = some vs ∧ w'.cell? ⟨P, 1, none⟩ = some vf) ∧ w'.cell? ⟨R, 0, none⟩ = some (.string r.name) ∧ w'.cell? ⟨R, 1, none⟩ = some (.int .i64 r.pa) ∧ w'.cell? ⟨R, 2, none⟩ = some (.int .i64 r.lo) ∧ w'.cell? ⟨R, 3, none⟩ = some vc) := fun w' hb' => ⟨row2 ((hb'.block P (lt_of_block n2)).trans n2), row4 ((hb'.block R (lt_of_block n1)).trans n1)⟩
  have FA : Hid (∀ w', Below w1.heap.size w1 w' → Pgm Q w' vs vf p ∧ Il Q' w' vc r.code ∧ Bs w' vb b ∧ Kd w') := fun w' hb' => ⟨hp.later (below_on Y1.out hb'), hr.later (below_on Y1.out hb'), hb.below (below_on Y1.out hb') (Nat.le_refl _), hk.later (below_on Y1.out hb')⟩
  have I1 := hide i1
  have I2 := hide i2
  have BL := hide hbl
  have SL := hide hs
  have CI : Hid (∀ i ∈ r.code, I6 i.a) := hr.i6
  clear n0 n1 n2 hp hr hb hk i1 i2 hbl hs B0 B1
  generalize hnm : r.name = nm at *
  generalize hpa : r.pa = pa at *
  generalize hlo : r.lo = lo at *
  have HR : Hid (r.name = nm ∧ r.pa = pa ∧ r.lo = lo) := ⟨hnm, hpa, hlo⟩
  clear hnm hpa hlo
  go_enter Tryd.func4, Tryd.ntmps4
  go_upto_region 1 with fail
  rw [← e0, ← hP, ← hR, ← hw0, ← hw1]
  clear hw0 hw1 e0 hP hR
  have K1 := (FA.out w1 (Below.refl _ _)).2.2.2
  go_wp2_with fail
  refine (shown_any w1 K1).mono ?_
  rintro e w2 ⟨rfl, b2, -⟩
  have X2 := hide b2
  obtain ⟨⟨x0, x1⟩, -⟩ := AT.out w2 X2.out
  have F2 := hide (FA.out w2 X2.out)
  have J := hide (encode_any p F2.out.1 F2.out.2.2.2.1)
  clear b2 K1
  go_wp2_with fail
  refine J.out.mono ?_
  intro e w3 ho
  obtain ⟨b3, vx, er, rfl, hc⟩ := enc_form ho
  have X3 := hide (below_on X2.out b3)
  have HC := hide hc
  clear ho b3 hc J F2 x0 x1 X2
  go_upto_if 34 with fail
  go_cut [34] (fun _ wx => Hid (Below w1.heap.size w1 wx))
  case first =>
    rcases HC.out with ⟨rfl, hm, ow⟩ | ⟨rfl, -⟩
    · have F3 := hide (FA.out w3 X3.out)
      have J := hide (enc_dec F3.out.1 hm ow F3.out.2.2.2.1)
      clear HC ow
      go_wp2_with fail
      refine J.out.mono ?_
      rintro e w4 ⟨b4, a, n, c, a', n', c', rfl, hq⟩
      obtain ⟨w5, hw5⟩ : ∃ X, X = w4.alloc (.cells #[.slice a n c, .slice a' n' c'] 36) := ⟨_, rfl⟩
      have b5 : Below w4.heap.size w4 w5 := hw5 ▸ below_alloc w4 _
      obtain ⟨T, hT⟩ : ∃ T, T = w4.heap.size := ⟨_, rfl⟩
      have n5 : w5.heap[T]? = some (.cells #[.slice a n c, .slice a' n' c'] 36 (0, 0)) := by rw [hw5, hT]; exact heap_alloc_new w4 _
      have X5 := hide (below_on X3.out (below_on b4 b5))
      obtain ⟨y0, y1⟩ := row2 n5
      obtain ⟨⟨x0, x1⟩, -⟩ := AT.out w5 X5.out
      have J2 := hide (programs_eq p (FA.out w5 X5.out).1 (hq.later b5))
      clear J F3 b4 b5 n5 hq X3
      go_upto_region 7 with fail
      rw [← hw5, ← hT]
      clear hw5 hT
      go_wp2_with fail
      refine J2.out.mono ?_
      rintro e w6 ⟨rfl, b6⟩
      have X6 := hide (below_on X5.out b6)
      clear J2 b6 X5 x0 x1 y0 y1
      go_wp2_with fail
      go_meet
      exact X6.out
    · clear HC
      go_wp2_with fail
      go_meet
      exact X3.out
  have F7 := hide (FA.out wc hcut.out)
  have J := hide (decode_any b F7.out.2.2.1 BL.out F7.out.2.2.2.1)
  clear HC X3
  go_wp2_with fail
  refine J.out.mono ?_
  intro e w8 ho
  obtain ⟨b8, a, n, c, a', n', c', ev, rfl, hd⟩ := dec_form ho
  obtain ⟨w9, hw9⟩ : ∃ X, X = w8.alloc (.cells #[.slice a n c, .slice a' n' c'] 36) := ⟨_, rfl⟩
  have b9 : Below w8.heap.size w8 w9 := hw9 ▸ below_alloc w8 _
  obtain ⟨T, hT⟩ : ∃ T, T = w8.heap.size := ⟨_, rfl⟩
  have n9 : w9.heap[T]? = some (.cells #[.slice a n c, .slice a' n' c'] 36 (0, 0)) := by rw [hw9, hT]; exact heap_alloc_new w8 _
  have X9 := hide (below_on hcut.out (below_on b8 b9))
  obtain ⟨y0, y1⟩ := row2 n9
  obtain ⟨bb, hd'⟩ : ∃ bb : Bool, (ev = .nilIface ∧ bb = true ∧ ∃ q, pgBy q = b ∧ mayOk q = true ∧ Pgm Qt w9 (.slice a n c) (.slice a' n' c') q) ∨ (bb = false ∧ ∃ N, ev = .iface 78 (.pointer (some ⟨N, 0, none⟩))) := by
    rcases hd with ⟨e1, q, e2, e3⟩ | h
    · obtain ⟨k1, k2, k3, k4⟩ := dec_bwd e2
      exact ⟨true, .inl ⟨e1, rfl, q, k1, k2, (e3.pgm k2 k3 k4).later b9⟩⟩
    · exact ⟨false, .inr ⟨rfl, h⟩⟩
  have HD := hide hd'
  clear hd'
  clear J F7 b8 b9 n9 hd ho hcut
  go_upto_region 11 with fail
  rw [← hw9, ← hT]
  clear hw9 hT
  go_cut [55] (fun v wx => v = .bool bb ∧ w9 = wx)
  case first =>
    rcases HD.out with ⟨rfl, rfl, -⟩ | ⟨rfl, N, rfl⟩
    · clear HD y0 y1
      go_wp2_with fail
      go_meet
      exact ⟨rfl, rfl⟩
    · clear HD y0 y1
      go_wp2_with fail
      go_meet
      exact ⟨rfl, rfl⟩
  obtain ⟨rfl, rfl⟩ := hcut
  go_upto_if 55 with fail
  go_cut [55] (fun _ wx => Hid (Below w1.heap.size w1 wx))
  case first =>
    rcases HD.out with ⟨rfl, rfl, q, e1, e2, hq⟩ | ⟨rfl, N, rfl⟩
    · have J := hide (encode_any q hq (FA.out w9 X9.out).2.2.2.1)
      clear HD hq
      go_wp2_with fail
      refine J.out.mono ?_
      intro e w10 ho
      obtain ⟨b10, vx', er', rfl, hc⟩ := enc_form ho
      rcases hc with ⟨rfl, -, ow⟩ | ⟨-, hn⟩
      · rw [e1] at ow
        have X10 := hide (below_on X9.out b10)
        have cv := conv_bs (own_bs ow)
        have cb := conv_bs (FA.out w10 X10.out).2.2.1
        clear J ow b10 ho X9 y0 y1 e1 e2
        go_wp2_with fail
        go_meet
        exact X10.out
      · rw [hn] at e2
        cases e2
    · clear HD y0 y1
      go_wp2_with fail
      go_meet
      exact X9.out
  clear HD X9 y0 y1
  obtain ⟨-, x2, x3, x4, x5⟩ := AT.out wc hcut.out
  have F9 := hide (FA.out wc hcut.out)
  have J := hide (list_any r F9.out.2.1 (HR.out.2.1 ▸ I1.out) (HR.out.2.2 ▸ I2.out) F9.out.2.2.2)
  unfold rtV at J
  rw [HR.out.1, HR.out.2.1, HR.out.2.2] at J
  go_wp2_with fail
  refine J.out.mono ?_
  rintro e wd ⟨rfl, bd⟩
  have XD := hide (below_on hcut.out bd)
  clear J F9 bd hcut x2 x3 x4 x5
  obtain ⟨t, ht⟩ : ∃ t, t = listB r := ⟨_, rfl⟩
  rw [← ht]
  have HT := hide ht
  clear ht
  go_upto_if 73 with fail
  go_cut [73] (fun _ wx => Hid (Below w1.heap.size w1 wx))
  case first =>
    cases hl : lstOk r with
    | true =>
      obtain ⟨l1, l2⟩ := listL_len hl (HR.out.2.1 ▸ I1.out) (HR.out.2.2 ▸ I2.out) CI.out
      have hsz : t.size = (listL r).length := by rw [HT.out]; exact bs_size _
      have nn := empty_no (s := t) (by omega)
      have nz := toList_ne (s := t) (by omega)
      have nb : (!t.toList.isEmpty) = true := by rw [nn]; rfl
      rw [nb]
      have J := hide (read_any t (by omega) wd (FA.out wd XD.out).2.2.2)
      have ER : Hid (readF t.data.toList = .inr r) := by
        unfold Hid
        rw [HT.out]
        exact read_list hl (HR.out.2.1 ▸ I1.out) (HR.out.2.2 ▸ I2.out) CI.out
      clear hsz l1 l2
      go_wp2_with fail
      refine J.out.mono ?_
      intro e we ho
      rw [ER.out] at ho
      obtain ⟨be, vc2, rfl, ow⟩ := ho
      have h6 := (list_read ER.out).2.2.2.1
      have hi := own_il ow h6
      obtain ⟨a2, c2, rfl⟩ := own_len ow
      unfold rtV
      rw [HR.out.1, HR.out.2.1, HR.out.2.2]
      generalize r.code.length = m2 at *
      obtain ⟨wf, hwf⟩ : ∃ X, X = we.alloc (.cells #[.string nm, .int .i64 pa, .int .i64 lo, .slice a2 m2 c2] 30) := ⟨_, rfl⟩
      have bf : Below we.heap.size we wf := hwf ▸ below_alloc we _
      obtain ⟨T', hT⟩ : ∃ T, T = we.heap.size := ⟨_, rfl⟩
      have nf : wf.heap[T']? = some (.cells #[.string nm, .int .i64 pa, .int .i64 lo, .slice a2 m2 c2] 30 (0, 0)) := by rw [hwf, hT]; exact heap_alloc_new we _
      have XF := hide (below_on XD.out (below_on be bf))
      obtain ⟨y0, y1, y2, y3⟩ := row4 nf
      obtain ⟨-, x2, x3, x4, x5⟩ := AT.out wf XF.out
      have J2 := hide (routines_eq r (FA.out wf XF.out).2.1 (hi.later bf))
      unfold rtV at J2
      rw [HR.out.1, HR.out.2.1, HR.out.2.2] at J2
      clear J be bf nf ow hi XD nn nz nb h6
      go_upto_region 18 with fail
      rw [← hwf, ← hT]
      clear hwf hT
      go_wp2_with fail
      refine J2.out.mono ?_
      rintro e wg ⟨rfl, bg⟩
      have XG := hide (below_on XF.out bg)
      clear J2 bg XF x2 x3 x4 x5 y0 y1 y2 y3
      go_wp2_with fail
      go_meet
      exact XG.out
    | false =>
      have hsz : t.size = 0 := by rw [HT.out, listB_no hl]; rfl
      have nb : (!t.toList.isEmpty) = false := by rw [empty_yes hsz]; rfl
      rw [nb]
      go_wp2_with fail
      go_meet
      exact XD.out
  clear XD HT
  have F9 := hide (FA.out wc hcut.out)
  have J := hide (read_any s SL.out wc F9.out.2.2.2)
  go_wp2_with fail
  refine J.out.mono ?_
  intro e wh ho
  obtain ⟨bh, n2, pa2, lo2, a2, m2, c2, ev2, rfl, hd⟩ := rd_form ho
  obtain ⟨wi, hwi⟩ : ∃ X, X = wh.alloc (.cells #[.string n2, .int .i64 pa2, .int .i64 lo2, .slice a2 m2 c2] 30) := ⟨_, rfl⟩
  have bi : Below wh.heap.size wh wi := hwi ▸ below_alloc wh _
  obtain ⟨T', hT⟩ : ∃ T, T = wh.heap.size := ⟨_, rfl⟩
  have ni : wi.heap[T']? = some (.cells #[.string n2, .int .i64 pa2, .int .i64 lo2, .slice a2 m2 c2] 30 (0, 0)) := by rw [hwi, hT]; exact heap_alloc_new wh _
  have XI := hide (below_on hcut.out (below_on bh bi))
  obtain ⟨y0, y1, y2, y3⟩ := row4 ni
  have HD : Hid ((ev2 = .nilIface ∧ Calls Tryd.prog 15 #[.agg #[.string n2, .int .i64 pa2, .int .i64 lo2, .slice a2 m2 c2]] wi fun e w' => e = .returned (.string s) ∧ Below wi.heap.size wi w') ∨ ∃ N, ev2 = .iface 78 (.pointer (some ⟨N, 0, none⟩))) := by
    rcases hd with ⟨e1, r', e2, rfl, rfl, rfl, ow⟩ | h
    · obtain ⟨k1, k2, k3, k4, k5⟩ := list_read e2
      have hc := list_any r' ((own_il ow k4).later bi) k2 k3 (FA.out wi XI.out).2.2.2
      have : listB r' = s := by
        unfold listB
        rw [k1]
      rw [this] at hc
      exact .inl ⟨e1, hc⟩
    · exact .inr h
  clear J F9 bh bi ni hd ho hcut
  go_upto_region 22 with fail
  rw [← hwi, ← hT]
  clear hwi hT
  rcases HD.out with ⟨rfl, hc⟩ | ⟨N, rfl⟩
  · clear HD
    go_wp2_with fail
    refine hc.mono ?_
    rintro e wj ⟨rfl, bj⟩
    have XJ := hide (below_on Y1.out (below_on XI.out bj))
    clear hc bj XI y0 y1 y2 y3
    go_wp2_with fail
    go_ret
    exact ⟨rfl, XJ.out⟩
  · clear HD y0 y1 y2 y3
    go_wp2_with fail
    go_ret
    exact ⟨rfl, below_on Y1.out XI.out⟩
end Go.Proofs.YtpolajoephjdhaaDoor
