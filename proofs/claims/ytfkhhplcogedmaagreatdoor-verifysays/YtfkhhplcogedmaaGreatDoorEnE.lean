/-
  Encode.
-/
import Derived.Test.YtfkhhplcogedmaaGreatDoorMgH
namespace Go.Proofs.YtfkhhplcogedmaaGreatDoor
open Go.RowKit
set_option maxRecDepth 100000
def syssBy (l : List Sy) : List UInt8 := l.flatMap sysBy
def rtsBy (l : List Rt) : List UInt8 := l.flatMap rtBy
def setsBy (l : List (List Int)) : List UInt8 := l.flatMap setBy
theorem flat_snoc {α : Type} (f : α → List UInt8) {l : List α} {k : Nat} (h : k < l.length) : (l.take (k + 1)).flatMap f = (l.take k).flatMap f ++ f l[k] := by
  rw [List.take_add_one, List.getElem?_eq_getElem h, List.flatMap_append]
  simp
theorem flat_len {α : Type} (f : α → List UInt8) (m : Nat) : ∀ {l : List α}, (∀ x ∈ l, (f x).length ≤ m) → (l.flatMap f).length ≤ m * l.length
  | [], _ => by simp
  | x :: l, h => by
    have h1 := h x (by simp)
    have h2 := flat_len f m (l := l) (fun y hy => h y (by simp [hy]))
    rw [List.flatMap_cons, List.length_append, List.length_cons, Nat.mul_add]
    omega
theorem sysOk_all {s : Sy} (h : sysOk s = true) : setOk s.wi = true ∧ setOk s.wo = true ∧ setOk s.re = true ∧ setOk s.wr = true ∧ rtOk s.run = true := by
  unfold sysOk at h
  simp only [Bool.and_eq_true] at h
  exact ⟨h.1.1.1.1, h.1.1.1.2, h.1.1.2, h.1.2, h.2⟩
/-- The numbers that a program holds are int64. -/
def Sy6 (s : Sy) : Prop := ∀ i ∈ s.run.code, I6 i.a
def Rt6 (r : Rt) : Prop := ∀ i ∈ r.code, I6 i.a
theorem sysBy_len {s : Sy} (h : sysOk s = true) (h6 : Sy6 s) : (sysBy s).length ≤ 42000 := by
  obtain ⟨h1, h2, h3, h4, h5⟩ := sysOk_all h
  have k1 := setBy_len h1
  have k2 := setBy_len h2
  have k3 := setBy_len h3
  have k4 := setBy_len h4
  have k5 := rtBy_len h5 h6
  unfold sysBy
  simp only [List.length_append]
  omega
/-- What Encode hands back. -/
def EnOut (W : World) (p : Pg) (e : Ending) (w' : World) : Prop :=
  Below W.heap.size W w' ∧ if mayOk p then ∃ v', e = .returned (.tuple #[v', .int .i64 0]) ∧ w'.ownsRow W.heap.size 5 1 v' (pgBy p).length (Lib.byteCells (pgBy p)) else e = .returned (.tuple #[.slice none 0 0, .int .i64 130])
theorem Sys.six {Q : Nat → Prop} {W : World} {v : Value} {l : List Sy} (h : Sys Q W v l) : ∀ s ∈ l, Sy6 s := by
  obtain ⟨ao, c, h1, h2, h3, h4⟩ := h
  intro s hs
  obtain ⟨k, hk, rfl⟩ := List.getElem_of_mem hs
  obtain ⟨g, o, -, -, h5⟩ := h4 (by omega)
  obtain ⟨-, -, v1, v2, v3, v4, vc, -, -, -, -, -, -, -, -, -, -, -, -, m5⟩ := h5 k hk
  exact m5.i6
theorem Rts.six {Q : Nat → Prop} {W : World} {v : Value} {l : List Rt} (h : Rts Q W v l) : ∀ r ∈ l, Rt6 r := by
  obtain ⟨ao, c, h1, h2, h3, h4⟩ := h
  intro s hs
  obtain ⟨k, hk, rfl⟩ := List.getElem_of_mem hs
  obtain ⟨g, o, -, -, h5⟩ := h4 (by omega)
  obtain ⟨-, -, vc, -, -, -, -, m5⟩ := h5 k hk
  exact m5.i6
theorem setBy_pos (l : List Int) : 0 < (setBy l).length := by
  unfold setBy
  have : 0 < (uv l.length).length := Lib.uvarint_pos _
  rw [List.length_append]; omega
theorem rtBy_pos (r : Rt) : 0 < (rtBy r).length := by
  have : 0 < (uv r.name.size).length := Lib.uvarint_pos _
  unfold rtBy
  simp only [List.length_append]; omega
/-- A row of one type lies in no block of another one. -/
theorem own_not {w : World} {B e s n t T : Nat} {v : Value} {xs : List Value} {cs : Array Value} (h : w.ownsRow B e s v n xs) (ht : w.heap[t]? = some (.cells cs T (0, 0))) (hne : T ≠ e) : v.ownBlock ≠ some t := by
  intro hb
  obtain ⟨-, ⟨rfl, -⟩ | ⟨g, cap, cur, rfl, -, hg, -⟩⟩ := h
  · simp [Value.ownBlock] at hb
  · have e1 : g = t := by simpa [Value.ownBlock] using hb
    subst e1
    rw [ht] at hg
    injection hg with hg
    injection hg with _ h2
    exact hne h2
set_option maxHeartbeats 8000000 in
theorem encode_at {Q : Nat → Prop} {W : World} {ns cs nf cf : Nat} {sa fa : Option Addr} (sys : List Sy) (fns : List Rt) (hns : ns = sys.length) (hnf : nf = fns.length) (hc1 : ns ≤ cs) (hc2 : cs ≤ 9223372036854775807) (hc3 : nf ≤ cf) (hc4 : cf ≤ 9223372036854775807)
    (h1 : Sys Q W (.slice sa ns cs) sys) (h2 : Rts Q W (.slice fa nf cf) fns) (ht : Tb W) : Calls Tryz.prog 21 #[.agg #[.slice sa ns cs, .slice fa nf cf]] W (EnOut W ⟨sys, fns⟩) := by
  obtain ⟨w0, hw0⟩ : ∃ X, X = W.alloc (.cells #[.slice sa ns cs, .slice fa nf cf] 25) := ⟨_, rfl⟩
  have B0 : Below W.heap.size W w0 := hw0 ▸ below_alloc W _
  have n1 : w0.heap[W.heap.size]? = some (.cells #[.slice sa ns cs, .slice fa nf cf] 25 (0, 0)) := by rw [hw0]; exact heap_alloc_new W _
  obtain ⟨B, hB⟩ : ∃ B, B = W.heap.size := ⟨_, rfl⟩
  rw [← hB] at n1
  have R2 : Hid (∀ w, Below w0.heap.size w0 w → w.cell? ⟨B, 0, none⟩ = some (.slice sa ns cs) ∧ w.cell? ⟨B, 1, none⟩ = some (.slice fa nf cf)) := fun w hw => by
    have n2 := (hw.block B (lt_of_block n1)).trans n1
    refine ⟨?_, ?_⟩ <;> rw [cell_of_row w _ _ _ 25 (0, 0) n2] <;> rfl
  obtain ⟨c0, c1⟩ := R2.out w0 (Below.refl _ _)
  have J := hide (maywrite_at sys fns hns hnf hc1 hc2 hc3 hc4 (h1.later B0) (h2.later B0) (ht.later B0))
  have S6 := hide h1.six
  have F6 := hide h2.six
  have HB := hide B0
  have H1 := hide h1
  have H2 := hide h2
  have HT := hide ht
  have HNS := hide hns
  have HNF := hide hnf
  have MO : Hid (mayOk ⟨sys, fns⟩ = true → (ns ≤ 16 ∧ nf ≤ 16) ∧ (∀ s ∈ sys, sysOk s = true) ∧ ∀ r ∈ fns, rtOk r = true) := fun h => by
    unfold mayOk at h
    simp only [Bool.and_eq_true, decide_eq_true_eq] at h
    refine ⟨by rw [hns, hnf]; exact h.1.1.1, List.all_eq_true.1 h.1.1.2, List.all_eq_true.1 h.1.2⟩
  have PB : Hid (pgBy ⟨sys, fns⟩ = uv ns ++ syssBy sys ++ uv nf ++ rtsBy fns) := by unfold Hid; rw [hns, hnf]; rfl
  unfold EnOut
  generalize pgBy ⟨sys, fns⟩ = pb at *
  clear n1 B0 ht h1 h2 hns hnf
  generalize mayOk ⟨sys, fns⟩ = q at *
  go_enter Tryz.func21, Tryz.ntmps21
  go_upto_region 1 with fail
  rw [← hw0, ← hB]
  clear hw0 hB
  cases q with
  | false =>
    go_wp2_with fail
    refine J.out.mono ?_
    rintro e w1 ⟨rfl, hb1⟩
    go_wp2_with fail
    go_ret2
    exact ⟨below_on HB.out hb1, rfl⟩
  | true =>
    obtain ⟨⟨hs16, hf16⟩, hso, hfo⟩ := MO.out rfl
    have SO := hide hso
    have FO := hide hfo
    clear hso hfo MO
    go_wp2_with fail
    refine J.out.mono ?_
    rintro e w1 ⟨rfl, hb1⟩
    have X1 := hide hb1
    obtain ⟨c0', c1'⟩ := R2.out w1 hb1
    have J0 := hide (put_out ns (Bs.nil w1) (by omega) (by simp))
    clear hb1 J c0 c1
    go_wp2_with fail
    refine J0.out.mono ?_
    rintro e w2 ⟨v2, rfl, ho2, hb2⟩
    have X2 := hide (below_on X1.out hb2)
    obtain ⟨y0, y1⟩ := R2.out w2 X2.out
    have O2 := hide (own_lower ho2 X1.out.size)
    have W2 := hide (below_on HB.out X2.out)
    have un := uv_len (n := ns) (by omega)
    have uf := uv_len (n := nf) (by omega)
    clear ho2 hb2 J0 c0' c1'
    go_wp2_with fail
    go_loopw [22, 4] (fun v u wr => ∃ k : Nat, v = .int .i64 (k : Int) ∧ k ≤ ns ∧ Hid (wr.ownsRow w0.heap.size 5 1 u (uv ns ++ syssBy (sys.take k)).length (Lib.byteCells (uv ns ++ syssBy (sys.take k)))) ∧ Hid (Below w0.heap.size w0 wr)) (fun v _ _ => ns - (intOf v).toNat)
    case atStart => exact ⟨0, rfl, by omega, by unfold Hid; simpa [syssBy] using O2.out, X2.out⟩
    case round =>
      obtain ⟨k, rfl, hk, hown, hbw⟩ := hrel
      by_cases hlt : k < ns
      · have hlt' : k < sys.length := by rw [← HNS.out]; exact hlt
        have bw := below_on HB.out hbw.out
        obtain ⟨g, o, rfl, -, hat⟩ := H1.out.nth hlt'
        obtain ⟨a1, a2, a3, a4, a5, m1, m2, m3, m4, m5, p1, p2, p3, p4, p5, hv, e0, e1, e2, e3, e4, e5, e6, e7⟩ := hat.vs
        have mw := Mv.of_below bw (fun _ => False)
        have d0 := mw.cell e0 (fun e => e)
        have d1 := mw.cell e1 (fun e => e)
        have d2 := mw.cell e2 (fun e => e)
        have d3 := mw.cell e3 (fun e => e)
        have d4 := mw.cell e4 (fun e => e)
        have d5 := mw.cell e5 (fun e => e)
        have d6 := mw.cell e6 (fun e => e)
        have d7 := mw.cell e7 (fun e => e)
        have g1 := World.block_lt_of_cell? wr _ d0
        obtain ⟨w3, hw3⟩ : ∃ X, X = wr.alloc (.cells #[.slice a1 m1 p1, .slice a2 m2 p2, .slice a3 m3 p3, .slice a4 m4 p4, .string sys[k].run.name, .int .i64 sys[k].run.pa, .int .i64 sys[k].run.lo, .slice a5 m5 p5] 38) := ⟨_, rfl⟩
        obtain ⟨t, htt⟩ : ∃ t, t = wr.heap.size := ⟨_, rfl⟩
        have b3 : Below wr.heap.size wr w3 := hw3 ▸ below_alloc wr _
        have n3 : w3.heap[t]? = some (.cells #[.slice a1 m1 p1, .slice a2 m2 p2, .slice a3 m3 p3, .slice a4 m4 p4, .string sys[k].run.name, .int .i64 sys[k].run.pa, .int .i64 sys[k].run.lo, .slice a5 m5 p5] 38 (0, 0)) := by rw [hw3, htt]; exact heap_alloc_new wr _
        have hok := SO.out sys[k] (List.getElem_mem hlt')
        obtain ⟨ok1, ok2, ok3, ok4, ok5⟩ := sysOk_all hok
        have J1 := hide (sets_any a1 a2 a3 a4 m1 m2 m3 m4 p1 p2 p3 p4 (.string sys[k].run.name) (.int .i64 sys[k].run.pa) (.int .i64 sys[k].run.lo) (.slice a5 m5 p5) w3)
        have SEL : Hid (∀ (w : World), Below W.heap.size W w → ∀ j : Nat, j < 4 → ∃ ax nx cx lx, (∀ w, (Instr.index 104 (.agg #[.slice a1 m1 p1, .slice a2 m2 p2, .slice a3 m3 p3, .slice a4 m4 p4]) (.int .i64 (j : Int))).run Tryz.prog w = .ok (.slice ax nx cx) w) ∧ (Calls Tryz.prog 44 #[.slice ax nx cx] w (ByOut w (setBy lx))) ∧ (setBy lx).length ≤ 130 ∧ setsBy ([sys[k].wi, sys[k].wo, sys[k].re, sys[k].wr].take (j + 1)) = setsBy ([sys[k].wi, sys[k].wo, sys[k].re, sys[k].wr].take j) ++ setBy lx) := by
          intro w hw j hj
          have ix := fun w => ix_set a1 a2 a3 a4 m1 m2 m3 m4 p1 p2 p3 p4 w
          have hvw := hv.later hw
          have go : ∀ {ax : Option Addr} {nx cx : Nat} {lx : List Int}, Nl Q w (.slice ax nx cx) lx → setOk lx = true → Calls Tryz.prog 44 #[.slice ax nx cx] w (ByOut w (setBy lx)) := fun {ax nx cx lx} hn hs => by
            obtain ⟨ax', cx', e, e1, e2⟩ := hn.at
            injection e with q1 q2 q3
            subst q1 q2 q3
            exact setbytes_at lx rfl e1 e2 hn hs
          obtain rfl | rfl | rfl | rfl : j = 0 ∨ j = 1 ∨ j = 2 ∨ j = 3 := by omega
          · exact ⟨_, _, _, _, fun w => (ix w).1, go hvw.w ok1, setBy_len ok1, by simp [setsBy]⟩
          · exact ⟨_, _, _, _, fun w => (ix w).2.1, go hvw.wo ok2, setBy_len ok2, by simp [setsBy]⟩
          · exact ⟨_, _, _, _, fun w => (ix w).2.2.1, go hvw.re ok3, setBy_len ok3, by simp [setsBy]⟩
          · exact ⟨_, _, _, _, fun w => (ix w).2.2.2, go hvw.wr ok4, setBy_len ok4, by simp [setsBy]⟩
        have JR : Hid (∀ w, Below W.heap.size W w → Calls Tryz.prog 45 #[.agg #[.string sys[k].run.name, .int .i64 sys[k].run.pa, .int .i64 sys[k].run.lo, .slice a5 m5 p5]] w (ByOut w (rtBy sys[k].run))) := fun w hw => routinebytes_at _ _ _ _ hv.ln hv.le hv.cp (hv.later hw).co ok5 (HT.out.later hw)
        have RL := rtBy_len ok5 (S6.out sys[k] (List.getElem_mem hlt'))
        have RP := rtBy_pos sys[k].run
        have ES := hide (flat_snoc sysBy hlt')
        have EY : Hid (sysBy sys[k] = setsBy ([sys[k].wi, sys[k].wo, sys[k].re, sys[k].wr].take 4) ++ rtBy sys[k].run) := by unfold Hid; simp [sysBy, setsBy]
        have CL : Hid ((uv ns ++ syssBy (sys.take k)).length ≤ 700000) := by
          unfold Hid
          have q2 := flat_len sysBy 42000 (l := sys.take k) (fun s hs => sysBy_len (SO.out s (List.mem_of_mem_take hs)) (S6.out s (List.mem_of_mem_take hs)))
          rw [List.length_take] at q2
          have q3 : 42000 * min k sys.length ≤ 42000 * 16 := Nat.mul_le_mul_left _ (by omega)
          rw [List.length_append]
          unfold syssBy
          omega
        have SL : Hid (∀ j, j ≤ 4 → (setsBy ([sys[k].wi, sys[k].wo, sys[k].re, sys[k].wr].take j)).length ≤ 130 * 4) := by
          intro j hj
          have q2 := flat_len setBy 130 (l := [sys[k].wi, sys[k].wo, sys[k].re, sys[k].wr].take j) (fun s hs => by
            have := List.mem_of_mem_take hs
            simp at this
            rcases this with rfl | rfl | rfl | rfl
            · exact setBy_len ok1
            · exact setBy_len ok2
            · exact setBy_len ok3
            · exact setBy_len ok4)
          rw [List.length_take] at q2
          have q3 : 130 * min j 4 ≤ 130 * 4 := Nat.mul_le_mul_left _ (by omega)
          exact Nat.le_trans q2 q3
        have R8 : Hid (∀ w : World, w.heap[t]? = some (.cells #[.slice a1 m1 p1, .slice a2 m2 p2, .slice a3 m3 p3, .slice a4 m4 p4, .string sys[k].run.name, .int .i64 sys[k].run.pa, .int .i64 sys[k].run.lo, .slice a5 m5 p5] 38 (0, 0)) → w.cell? ⟨t, 4, none⟩ = some (.string sys[k].run.name) ∧ w.cell? ⟨t, 5, none⟩ = some (.int .i64 sys[k].run.pa) ∧ w.cell? ⟨t, 6, none⟩ = some (.int .i64 sys[k].run.lo) ∧ w.cell? ⟨t, 7, none⟩ = some (.slice a5 m5 p5)) := fun w hw => (row8 hw).2.2.2.2
        have HX := hide (below_on hbw.out b3)
        have O3 := hide (own_later hown.out b3)
        obtain ⟨x0, x1, x2, x3, x4, x5, x6, x7⟩ := row8 n3
        have N3 := hide n3
        generalize [sys[k].wi, sys[k].wo, sys[k].re, sys[k].wr] = ls at *
        generalize sysBy sys[k] = sb at *
        generalize rtBy sys[k].run = rb at *
        generalize sys[k].run.name = nm at *
        generalize sys[k].run.pa = pa at *
        generalize sys[k].run.lo = lo at *
        clear hat hv b3 bw hok mw e0 e1 e2 e3 e4 e5 e6 e7 ok1 ok2 ok3 ok4 ok5
        go_upto_region 7 with fail
        rw [← hw3, ← htt]
        clear hw3 htt n3
        go_wp2_with fail
        refine J1.out.mono ?_
        rintro e w4 ⟨rfl, hb4⟩
        have HB4 := hide (below_on HX.out hb4)
        have N4 := hide ((hb4.block t (lt_of_block N3.out)).trans N3.out)
        have O4 := hide (own_later O3.out hb4)
        clear hb4 J1 x0 x1 x2 x3 x4 x5 x6 x7
        generalize hpre : uv ns ++ syssBy (sys.take k) = pre at *
        have hcl := CL.out
        have HP := hide hpre
        obtain ⟨wq, hwq⟩ : ∃ X, X = wr := ⟨_, rfl⟩
        subst hwq
        clear hpre
        go_wp2_with fail
        go_loopw [28, 4] (fun v u wx => ∃ j : Nat, v = .int .i64 (j : Int) ∧ j ≤ 4 ∧ Hid (wx.ownsRow w0.heap.size 5 1 u (pre ++ setsBy (ls.take j)).length (Lib.byteCells (pre ++ setsBy (ls.take j)))) ∧ Hid (wx.heap[t]? = some (.cells #[.slice a1 m1 p1, .slice a2 m2 p2, .slice a3 m3 p3, .slice a4 m4 p4, .string nm, .int .i64 pa, .int .i64 lo, .slice a5 m5 p5] 38 (0, 0))) ∧ Hid (Below w0.heap.size w0 wx)) (fun v _ _ => 4 - (intOf v).toNat)
        case atStart => exact ⟨0, rfl, by omega, by unfold Hid; simpa [setsBy] using O4.out, N4.out, HB4.out⟩
        case round =>
          obtain ⟨j, rfl, hj, hown2, hnt, hbx⟩ := hrel
          have slj := SL.out j hj
          have bW := below_on HB.out hbx.out
          by_cases hjt : j < 4
          · obtain ⟨ax, nx, cx, lx, ix, JS, sl, es⟩ := SEL.out wr bW j hjt
            have JSS := hide JS
            have ESS := hide es
            clear JS es bW
            go_wp2_with fail
            refine JSS.out.mono ?_
            rintro e w5 ⟨v5, rfl, ho5, hb5⟩
            obtain ⟨g5, c5, rfl, hc5, hc6⟩ := own_form ho5 (setBy_pos lx)
            have O5 := own_later hown2.out hb5
            have n5 := (hb5.block t (lt_of_block hnt.out)).trans hnt.out
            have ne5 := own_not O5 n5 (by decide)
            obtain ⟨ib, hi, hz0, hz1, hz2⟩ := info_parts infoB
            have BC := byteCells_cell ho5
            have HB5 := hide (below_on hbx.out hb5)
            have N5 := hide n5
            have hsz := HB5.out.size
            have plen : (pre ++ setsBy (ls.take j)).length ≤ 800000 := by rw [List.length_append]; omega
            clear hb5 ho5 JSS n5
            go_wp2_with (at_builtin; refine wpList_append_own _ rfl _ _ 68 rfl w0.heap.size 5 ib (.int .u8 0) 1 1 Tryz.underlying68 hi hz0 hz1 hz2 rfl (by decide) _ _ _ rfl O5 ⟨g5, 0, none⟩ (setBy lx).length c5 (Lib.byteCells (setBy lx)) rfl ?c0 BC ?c2 ?c3 ?c4 ?c5 ?_)
            case c0 => rw [Lib.byteCells_length]; omega
            case c2 => exact byteCells_one _
            case c3 => unfold maxLen; omega
            case c4 => omega
            case c5 => omega
            intro v8 w8 ho8 hg8 _
            have el : pre.length + (setsBy (ls.take j)).length + (setBy lx).length = (pre ++ setsBy (ls.take (j + 1))).length := by rw [ESS.out]; simp only [List.length_append]; omega
            rw [← Lib.byteCells_append, List.append_assoc, ← ESS.out, el] at ho8
            have O8 := hide ho8
            have HB8 : Hid (Below w0.heap.size w0 w8) := HB5.out.grown hg8 HB5.out.size (fun k hk => (O5.lt k hk).1)
            have N8 := hide ((hg8.block t (lt_of_block N5.out) (fun e => ne5 e.symm)).trans N5.out)
            clear ho8 hg8 O5 BC ne5
            go_wp2_with fail
            go_roundw
            case rel => exact ⟨j + 1, by go_num, by omega, O8.out, N8.out, HB8.out⟩
            case measure => simp [intOf]; omega
          · obtain rfl : j = 4 := by omega
            obtain ⟨z4, z5, z6, z7⟩ := R8.out wr hnt.out
            have J7 := hide (JR.out wr bW)
            clear bW
            go_wp2_with fail
            refine J7.out.mono ?_
            rintro e w5 ⟨v5, rfl, ho5, hb5⟩
            obtain ⟨g5, c5, rfl, hc5, hc6⟩ := own_form ho5 RP
            have O5 := own_later hown2.out hb5
            obtain ⟨ib, hi, hz0, hz1, hz2⟩ := info_parts infoB
            have BC := byteCells_cell ho5
            have HB5 := hide (below_on hbx.out hb5)
            have hsz := HB5.out.size
            have plen : (pre ++ setsBy (ls.take 4)).length ≤ 800000 := by rw [List.length_append]; omega
            clear hb5 ho5 J7 z4 z5 z6 z7
            go_wp2_with (at_builtin; refine wpList_append_own _ rfl _ _ 68 rfl w0.heap.size 5 ib (.int .u8 0) 1 1 Tryz.underlying68 hi hz0 hz1 hz2 rfl (by decide) _ _ _ rfl O5 ⟨g5, 0, none⟩ (rb).length c5 (Lib.byteCells (rb)) rfl ?c0 BC ?c2 ?c3 ?c4 ?c5 ?_)
            case c0 => rw [Lib.byteCells_length]; omega
            case c2 => exact byteCells_one _
            case c3 => unfold maxLen; omega
            case c4 => omega
            case c5 => omega
            intro v8 w8 ho8 hg8 _
            have el : pre.length + (setsBy (ls.take 4)).length + rb.length = (uv ns ++ syssBy (sys.take (k + 1))).length := by
              unfold syssBy
              have e1 := HP.out
              unfold syssBy at e1
              rw [ES.out, ← List.append_assoc, e1, EY.out]; simp only [List.length_append]; omega
            have eb : pre ++ setsBy (ls.take 4) ++ rb = uv ns ++ syssBy (sys.take (k + 1)) := by
              unfold syssBy
              have e1 := HP.out
              unfold syssBy at e1
              rw [ES.out, ← List.append_assoc, e1, EY.out, List.append_assoc]
            rw [← Lib.byteCells_append, eb, el] at ho8
            have O8 := hide ho8
            have HB8 : Hid (Below w0.heap.size w0 w8) := HB5.out.grown hg8 HB5.out.size (fun k hk => (O5.lt k hk).1)
            clear ho8 hg8 O5 BC el eb
            go_wp2_with fail
            go_roundw
            case rel => exact ⟨k + 1, by go_num, by omega, O8.out, HB8.out⟩
            case measure => simp [intOf]; omega
      · obtain rfl : k = ns := by omega
        have CL : Hid ((uv k ++ syssBy sys).length ≤ 700000) := by
          unfold Hid
          have q2 := flat_len sysBy 42000 (l := sys) (fun s hs => sysBy_len (SO.out s hs) (S6.out s hs))
          have q3 : 42000 * sys.length ≤ 42000 * 16 := Nat.mul_le_mul_left _ (by have := HNS.out; omega)
          rw [List.length_append]
          unfold syssBy
          omega
        rw [show sys.take k = sys by rw [HNS.out, List.take_length]] at hown
        obtain ⟨pre, hpre⟩ : ∃ x, x = uv k ++ syssBy sys := ⟨_, rfl⟩
        rw [← hpre] at CL hown
        have HP := hide hpre
        obtain ⟨r0, r1⟩ := R2.out wr hbw.out
        have J2 := hide (put_out nf (Bs.nil wr) (by omega) (by simp))
        clear hpre y0 y1
        go_wp2_with fail
        refine J2.out.mono ?_
        rintro e w5 ⟨v5, rfl, ho5, hb5⟩
        rw [List.nil_append] at ho5
        obtain ⟨g5, c5, rfl, hc5, hc6⟩ := own_form ho5 (Lib.uvarint_pos nf)
        have O5 := own_later hown.out hb5
        obtain ⟨ib, hi, hz0, hz1, hz2⟩ := info_parts infoB
        have BC := byteCells_cell ho5
        have HB5 := hide (below_on hbw.out hb5)
        have hsz := HB5.out.size
        have plen := CL.out
        clear hb5 ho5 J2 r0 r1
        go_wp2_with (at_builtin; refine wpList_append_own _ rfl _ _ 68 rfl w0.heap.size 5 ib (.int .u8 0) 1 1 Tryz.underlying68 hi hz0 hz1 hz2 rfl (by decide) _ _ _ rfl O5 ⟨g5, 0, none⟩ (uv nf).length c5 (Lib.byteCells (uv nf)) rfl ?c0 BC ?c2 ?c3 ?c4 ?c5 ?_)
        case c0 => rw [Lib.byteCells_length]; omega
        case c2 => exact byteCells_one _
        case c3 => unfold maxLen; omega
        case c4 => omega
        case c5 => omega
        intro v8 w8 ho8 hg8 _
        rw [← Lib.byteCells_append, ← List.length_append] at ho8
        have O8 := hide ho8
        have HB8 : Hid (Below w0.heap.size w0 w8) := HB5.out.grown hg8 HB5.out.size (fun k hk => (O5.lt k hk).1)
        obtain ⟨-, r1⟩ := R2.out w8 HB8.out
        have PL2 : Hid ((pre ++ uv nf).length ≤ 700010) := by unfold Hid; rw [List.length_append]; omega
        have EP : Hid (uv k ++ syssBy sys ++ uv nf ++ rtsBy fns = (pre ++ uv nf) ++ rtsBy fns) := by unfold Hid; rw [HP.out]
        clear ho8 hg8 O5 BC
        generalize pre ++ uv nf = pr2 at *
        go_wp2_with fail
        go_loopw [52, 4] (fun v u wr => ∃ j : Nat, v = .int .i64 (j : Int) ∧ j ≤ nf ∧ Hid (wr.ownsRow w0.heap.size 5 1 u (pr2 ++ rtsBy (fns.take j)).length (Lib.byteCells (pr2 ++ rtsBy (fns.take j)))) ∧ Hid (Below w0.heap.size w0 wr)) (fun v _ _ => nf - (intOf v).toNat)
        case atStart => exact ⟨0, rfl, by omega, by unfold Hid; simpa [rtsBy] using O8.out, HB8.out⟩
        case round =>
          obtain ⟨j, rfl, hj, hown2, hbx⟩ := hrel
          by_cases hjt : j < nf
          · have hjt' : j < fns.length := by rw [← HNF.out]; exact hjt
            have bw := below_on HB.out hbx.out
            obtain ⟨g, o, rfl, -, -, -, vc, d0, d1, d2, d3, hil⟩ := (H2.out.later bw).nth hjt'
            obtain ⟨a5, p5, rfl, q1, q2⟩ := hil.at
            have g1 := World.block_lt_of_cell? wr _ d0
            obtain ⟨w2, hw2⟩ : ∃ X, X = wr.alloc (.cells #[.string fns[j].name, .int .i64 fns[j].pa, .int .i64 fns[j].lo, .slice a5 fns[j].code.length p5] 35) := ⟨_, rfl⟩
            obtain ⟨t, htt⟩ : ∃ t, t = wr.heap.size := ⟨_, rfl⟩
            have b2 : Below wr.heap.size wr w2 := hw2 ▸ below_alloc wr _
            have n2 : w2.heap[t]? = some (.cells #[.string fns[j].name, .int .i64 fns[j].pa, .int .i64 fns[j].lo, .slice a5 fns[j].code.length p5] 35 (0, 0)) := by rw [hw2, htt]; exact heap_alloc_new wr _
            have ok := FO.out fns[j] (List.getElem_mem hjt')
            have J3 := hide (routinebytes_at fns[j].name fns[j].pa fns[j].lo fns[j].code rfl q1 q2 (hil.later b2) ok ((HT.out.later bw).later b2))
            have RL := rtBy_len ok (F6.out fns[j] (List.getElem_mem hjt'))
            have RP := rtBy_pos fns[j]
            have ES := hide (flat_snoc rtBy hjt')
            have HX := hide (below_on hbx.out b2)
            have O3 := hide (own_later hown2.out b2)
            have CJ : (pr2 ++ rtsBy (fns.take j)).length ≤ 1500000 := by
              have k2 := flat_len rtBy 41000 (l := fns.take j) (fun s hs => rtBy_len (FO.out s (List.mem_of_mem_take hs)) (F6.out s (List.mem_of_mem_take hs)))
              rw [List.length_take] at k2
              have k3 : 41000 * min j fns.length ≤ 41000 * 16 := Nat.mul_le_mul_left _ (by omega)
              have := PL2.out
              rw [List.length_append]
              unfold rtsBy
              omega
            have EQ : rtBy ⟨fns[j].name, fns[j].pa, fns[j].lo, fns[j].code⟩ = rtBy fns[j] := rfl
            rw [EQ] at J3
            obtain ⟨x0, x1, x2, x3⟩ := row4 n2
            generalize rtBy fns[j] = rb at *
            generalize fns[j].name = nm at *
            generalize fns[j].pa = pa at *
            generalize fns[j].lo = lo at *
            generalize fns[j].code.length = cl at *
            clear hil b2 bw ok EQ n2
            go_upto_region 18 with fail
            rw [← hw2, ← htt]
            clear hw2 htt
            go_wp2_with fail
            refine J3.out.mono ?_
            rintro e w5 ⟨v5, rfl, ho5, hb5⟩
            obtain ⟨g6, c6, rfl, hc7, hc8⟩ := own_form ho5 RP
            have O5 := own_later O3.out hb5
            have BC := byteCells_cell ho5
            have HB6 := hide (below_on HX.out hb5)
            have hsz := HB6.out.size
            clear hb5 ho5 J3 x0 x1 x2 x3
            go_wp2_with (at_builtin; refine wpList_append_own _ rfl _ _ 68 rfl w0.heap.size 5 ib (.int .u8 0) 1 1 Tryz.underlying68 hi hz0 hz1 hz2 rfl (by decide) _ _ _ rfl O5 ⟨g6, 0, none⟩ (rb).length c6 (Lib.byteCells (rb)) rfl ?c0 BC ?c2 ?c3 ?c4 ?c5 ?_)
            case c0 => rw [Lib.byteCells_length]; omega
            case c2 => exact byteCells_one _
            case c3 => unfold maxLen; omega
            case c4 => omega
            case c5 => omega
            intro v9 w9 ho9 hg9 _
            have el : pr2.length + (rtsBy (fns.take j)).length + rb.length = (pr2 ++ rtsBy (fns.take (j + 1))).length := by
              unfold rtsBy
              rw [ES.out]; simp only [List.length_append]; omega
            have eb : pr2 ++ rtsBy (fns.take j) ++ rb = pr2 ++ rtsBy (fns.take (j + 1)) := by
              unfold rtsBy
              rw [ES.out, List.append_assoc]
            rw [← Lib.byteCells_append, eb, el] at ho9
            have O9 := hide ho9
            have HB9 : Hid (Below w0.heap.size w0 w9) := HB6.out.grown hg9 HB6.out.size (fun k hk => (O5.lt k hk).1)
            clear ho9 hg9 O5 BC el eb
            go_wp2_with fail
            go_roundw
            case rel => exact ⟨j + 1, by go_num, by omega, O9.out, HB9.out⟩
            case measure => simp [intOf]; omega
          · obtain rfl : j = nf := by omega
            rw [show fns.take j = fns by rw [HNF.out, List.take_length]] at hown2
            go_wp2_with fail
            go_ret2
            refine ⟨below_on HB.out hbx.out, ?_⟩
            refine ⟨_, rfl, ?_⟩
            rw [PB.out, EP.out]
            exact own_lower hown2.out HB.out.size
theorem encode_any {Q : Nat → Prop} {W : World} {vs vf : Value} (p : Pg) (h : Pgm Q W vs vf p) (ht : Tb W) : Calls Tryz.prog 21 #[.agg #[vs, vf]] W (EnOut W p) := by
  obtain ⟨h1, h2⟩ := h
  obtain ⟨a1, c1, rfl, e1, e2⟩ := h1.at
  obtain ⟨a2, c2, rfl, e3, e4⟩ := h2.at
  exact encode_at p.sys p.fns rfl rfl e1 e2 e3 e4 h1 h2 ht
end Go.Proofs.YtfkhhplcogedmaaGreatDoor
