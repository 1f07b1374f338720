import Derived.Test.YtkohlhnkaklnpaaMr12
import Derived.Laws.AppendOwnNone
import Derived.Maps.AppendAt
import Derived.Test.YtkohlhnkaklnpaaMr09
import Derived.Test.YtkohlhnkaklnpaaMr02
import Derived.Deep.QuietTactic
import Derived.BigQuiet
/-
  The pieces of a list are kept one by one. No walk in this text.
-/
namespace Go.Proofs.Ytkohlhnkaklnpaa
open Go.RowKit
/-- What is touched when the first ones of a list are kept. -/
def Kt (K0 : Nat → Prop) (us : List Value) (i : Nat) : Nat → Prop := fun k => K0 k ∨ ∃ j, ∃ h : j < us.length, j < i ∧ us[j].ownBlock = some k
/-- The first ones of a list are kept. -/
def Kl (w0 wr : World) (B nk : Nat) (K0 : Nat → Prop) (us : List Value) (i : Nat) (vk : Value) : Prop :=
  Kz wr B (nk + 2 * i) (fun k => Kt K0 us i k ∨ (w0.heap.size ≤ k ∧ k < wr.heap.size)) vk ∧ Mv w0 wr (Kt K0 us i)
theorem Kl.start {w0 : World} {B nk : Nat} {K0 : Nat → Prop} {us : List Value} {vk : Value} (h : Kz w0 B nk K0 vk) : Kl w0 w0 B nk K0 us 0 vk := by
  obtain ⟨hs, h1, h2, h3, h4, h5⟩ := h
  refine ⟨⟨hs, h1, h2, fun k e => .inl (.inl (h3 k e)), fun x hx k e => .inl (.inl (h4 x hx k e)), fun k e => ?_⟩, Mv.refl _ _⟩
  rcases e with (e | ⟨j, _, hj, _⟩) | e
  · exact h5 k e
  · omega
  · omega
/-- The next one. -/
theorem Kl.step {w0 wr : World} {B nk i : Nat} {K0 : Nat → Prop} {us : List Value} {ds : List (List UInt8)} {vk : Value} (h : Kl w0 wr B nk K0 us i vk) (hp : Pieces w0 B us ds) (hi : i < us.length) (hK : ∀ k, K0 k → ∀ u ∈ us, u.ownBlock ≠ some k) (hB : B ≤ w0.heap.size) (hnk : nk + 2 * i ≤ 100000000) (hl : ∀ d ∈ ds, d.length ≤ 100000000) :
    Calls Try.prog 14 #[vk, us[i]] wr fun e w' => ∃ ao n c, e = .returned (.slice ao n c) ∧ Kl w0 w' B nk K0 us (i + 1) (.slice ao n c) := by
  obtain ⟨hz, hm⟩ := h
  have hid : i < ds.length := by rw [← hp.1]; exact hi
  have hpi := (hp.2.1 i hi hid).1
  have hsz := hm.2.2.2.1
  have hnot : ∀ k, us[i].ownBlock = some k → ¬ Kt K0 us i k := fun k e e' => by
    rcases e' with e' | ⟨j, hj, hji, e'⟩
    · exact hK k e' _ (List.getElem_mem hi) e
    · exact hp.2.2 j i hj hi (by omega) k e' e
  have hpr : Piece wr B us[i] ds[i] := hpi.on (fun k e => hm.2.2.2.2 k (hpi.block k e).2 (hnot k e))
  refine (keep_kz hz hpr (fun k e e' => ?_) (by omega) hnk (hl _ (List.getElem_mem hid))).mono ?_
  · rcases e' with e' | e'
    · exact hnot k e e'
    · have := (hpi.block k e).2
      omega
  · rintro e w' ⟨ao, n, c, rfl, hz', hm'⟩
    have hsz' := hm'.2.2.2.1
    obtain ⟨hs, q1, q2, q3, q4, q5⟩ := hz'
    have conv : ∀ k, ((Kt K0 us i k ∨ (w0.heap.size ≤ k ∧ k < wr.heap.size)) ∨ us[i].ownBlock = some k ∨ (wr.heap.size ≤ k ∧ k < w'.heap.size)) → Kt K0 us (i + 1) k ∨ (w0.heap.size ≤ k ∧ k < w'.heap.size) := fun k e => by
      rcases e with ((e | ⟨j, hj, hji, e⟩) | e) | e | e
      · exact .inl (.inl e)
      · exact .inl (.inr ⟨j, hj, by omega, e⟩)
      · exact .inr ⟨e.1, by omega⟩
      · exact .inl (.inr ⟨i, hi, by omega, e⟩)
      · exact .inr ⟨by omega, e.2⟩
    refine ⟨ao, n, c, rfl, ⟨hs, q1, by omega, fun k e => conv k (q3 k e), fun x hx k e => conv k (q4 x hx k e), fun k e => ?_⟩, (hm.mono (S' := Kt K0 us (i + 1)) (fun k _ e => ?_)).trans hm' (fun k hk e => ?_)⟩
    · rcases e with (e | ⟨j, hj, hji, e⟩) | e
      · exact q5 k (.inl (.inl (.inl e)))
      · by_cases hje : j = i
        · subst hje
          exact q5 k (.inr (.inl e))
        · exact q5 k (.inl (.inl (.inr ⟨j, hj, by omega, e⟩)))
      · exact ⟨by omega, e.2⟩
    · rcases e with e | ⟨j, hj, hji, e⟩
      · exact .inl e
      · exact .inr ⟨j, hj, by omega, e⟩
    · rcases e with ((e | ⟨j, hj, hji, e⟩) | e) | e
      · exact .inl e
      · exact .inr ⟨j, hj, by omega, e⟩
      · omega
      · exact .inr ⟨i, hi, by omega, e⟩
end Go.Proofs.Ytkohlhnkaklnpaa

/-
  'append' of a list of lists onto one of the call's own; a list of lists copied.
-/
namespace Go.Proofs.Ytkohlhnkaklnpaa
open Go.RowKit
theorem run_append_ll {w : World} (base B2 : Nat) (ty : TypeId) (v : Value) (n : Nat) (xs : List Value) (hown : w.ownsRow base 22 1 v n xs) (vb : Value) (m : Nat) (us : List Value) (hu : w.ownsRow B2 22 1 vb m us) (hone : ∀ u ∈ us, u.oneCell' = true) (hlim : n + m ≤ 1000000000000) (hbase : base ≤ w.heap.size) :
    ∃ v' w', (Builtin.append_ #[34, 34] ty #[v, vb]).run Try.prog w = .ok v' w' ∧ w'.ownsRow base 22 1 v' (n + m) (xs ++ us) ∧ w.grownBy w' v.ownBlock ∧ (v'.ownBlock = v.ownBlock ∨ v'.ownBlock = some w.heap.size) := by
  obtain ⟨i0, hi, hz0, hz1, hz2⟩ := info_parts info22
  have hul : us.length = m := by have := hu.1; omega
  rcases id hu.2 with ⟨rfl, rfl⟩ | ⟨g, c, cur, rfl, _⟩
  · obtain rfl : us = [] := List.eq_nil_of_length_eq_zero hul
    refine ⟨v, w, run_append_owned_none w base 34 ty 22 i0 1 Try.underlying34 hi v n xs hown, ?_, ⟨rfl, rfl, rfl, Nat.le_refl _, fun _ _ _ => rfl⟩, .inl rfl⟩
    simpa using hown
  · obtain ⟨v', w', hr, q2, q3, _, q5⟩ := run_append_own_at (P := Try.prog) w base 34 ty 22 i0 (.slice none 0 0) 1 24 Try.underlying34 hi hz0 hz1 hz2 rfl (by decide) v n xs hown ⟨g, 0, none⟩ m c us (by omega) (fun j u hj => hu.cells (g := g) rfl j u hj) hone (by unfold maxLen; omega) (by omega) hbase
    exact ⟨v', w', hr, q2, q3, q5⟩
theorem wpList_append_ll (w : World) {ops : Array Oper} {rest : List Oper} {o : Oper} {a : Act} {Q : Exit → Act → World → Prop} (hgd : o.guard = none) (s x : Operand)
    (ho : o.op = .call { callee := .builtin .append, args := #[s, x], argTypes := #[34, 34] })
    (base B2 : Nat) (v : Value) (n : Nat) (xs : List Value) (hs : a.eval s = v) (hown : w.ownsRow base 22 1 v n xs)
    (vb : Value) (m : Nat) (us : List Value) (hx : a.eval x = vb) (hu : w.ownsRow B2 22 1 vb m us) (hone : ∀ u ∈ us, u.oneCell' = true) (hlim : n + m ≤ 1000000000000) (hbase : base ≤ w.heap.size)
    (h : ∀ v' w', w'.ownsRow base 22 1 v' (n + m) (xs ++ us) → w.grownBy w' v.ownBlock → (v'.ownBlock = v.ownBlock ∨ v'.ownBlock = some w.heap.size) → wpList Try.prog ops Q rest (a.put o.dst v') w') : wpList Try.prog ops Q (o :: rest) a w :=
  wpList_plain hgd fun _ hK => by
    obtain ⟨v', w', hr, h2, h3, h4⟩ := run_append_ll (w := w) base B2 o.type v n xs hown vb m us hu hone hlim hbase
    unfold Oper.wp execOp
    simp only [ho, resolve, invoke, builtin, Sem.run_bind, Sem.run_pure, Result.andThen_ok, List.map_toArray, List.map_cons, List.map_nil, hs, hx, hr]
    exact hK _ _ (h v' w' h2 h3 h4)
/-- A slice takes one cell. -/
theorem pieces_one {w : World} {B : Nat} {vs : List Value} {ds : List (List UInt8)} (h : Pieces w B vs ds) : ∀ u ∈ vs, u.oneCell' = true := by
  intro u hu
  obtain ⟨i, hi, rfl⟩ := List.getElem_of_mem hu
  obtain ⟨a, b, c, e⟩ := (h.2.1 i hi (by rw [← h.1]; exact hi)).1.shape
  rw [e]
  rfl
/-- A copy of a list of lists: the row is new, what it holds is the same. -/
theorem own_empty (w : World) : (w.alloc (.cells #[] 22)).ownsRow w.heap.size 22 1 (.slice (some ⟨w.heap.size, 0, none⟩) 0 0) 0 [] :=
  ⟨rfl, .inr ⟨w.heap.size, 0, #[], rfl, Nat.le_refl _, heap_alloc_new w _, Nat.le_refl _, Nat.zero_le _, rfl, rfl⟩⟩
end Go.Proofs.Ytkohlhnkaklnpaa

/-
  The law's looks: do all read as their owner left them?
-/
namespace Go.Proofs.Ytkohlhnkaklnpaa
open Go.RowKit
set_option maxHeartbeats 4000000 in
set_option maxRecDepth 100000 in
theorem looks_any (B : Nat) (vk : Value) (hs : List (Value × Nat)) (w : World) (hk : Kept w B vk hs) :
    Calls Try.prog 15 #[vk] w fun e w' => e = .returned (.bool true) ∧ ∃ d, w' = w.drewN d := by
  obtain ⟨aok, capk, rfl⟩ := own_len hk.1
  have hcap : hs.length ≤ capk ∧ capk ≤ 9223372036854775807 := by
    rcases hk.1.2 with ⟨e, h0⟩ | ⟨g, c', cur, e, _, _, h1, h2, _⟩
    · simp only [Value.slice.injEq] at e
      obtain ⟨_, _, rfl⟩ := e
      exact ⟨by omega, by omega⟩
    · simp only [Value.slice.injEq] at e
      obtain ⟨_, _, rfl⟩ := e
      unfold maxLen at h2
      exact ⟨h1, by omega⟩
  obtain ⟨hc1, hc2⟩ := hcap
  have HK := hide hk
  clear hk
  go_enter Try.func15, Try.ntmps15
  go_wp2_with fail
  go_loopw [3] (fun v3 wr => ∃ j : Nat, j ≤ hs.length ∧ v3 = .int .i64 j ∧ ∃ d, wr = w.drewN d) (fun v3 _ => hs.length - (intOf v3).toNat)
  case atStart => exact ⟨0, Nat.zero_le _, rfl, 0, rfl⟩
  case round =>
    obtain ⟨j, hj, rfl, d, rfl⟩ := hrel
    by_cases hlt : j < hs.length
    · obtain ⟨gv, rfl⟩ : ∃ g, aok = some ⟨g, 0, none⟩ := by
        rcases HK.out.1.2 with ⟨_, e⟩ | ⟨g, c', cur, e, _⟩
        · omega
        · simp only [Value.slice.injEq] at e
          exact ⟨g, e.1⟩
      obtain ⟨f1, f2⟩ := flat_at hs j hlt
      have c1 := (HK.out.1.cellAt (j * 2) (by omega)).trans f1
      have c2 := (HK.out.1.cellAt (j * 2 + 1) (by omega)).trans f2
      obtain ⟨a1, a2, _, _⟩ := HK.out.2 _ (List.getElem_mem hlt)
      have e1 : (j : Int) < (hs.length : Int) := by omega
      clear f1 f2
      obtain ⟨ao, n, c, hv, hn, hc, hk⟩ := a1
      rw [hv] at c1
      unfold maxLen at hc
      generalize hs[j].2 = m at *
      have HKK := hide hk
      have HV := hide hv
      clear hk hv
      go_wp2_with fail
      go_loopw [4] (fun v4 wr => ∃ k : Nat, k ≤ n ∧ v4 = .int .i64 k ∧ ∃ d, wr = w.drewN d) (fun v4 _ => n - (intOf v4).toNat)
      case atStart => exact ⟨0, Nat.zero_le _, rfl, d, rfl⟩
      case round =>
        obtain ⟨k, hkn, rfl, d', rfl⟩ := hrel
        by_cases hlt2 : k < n
        · obtain ⟨g, o, rfl, hck⟩ := HKK.out k hlt2
          have e2 : (k : Int) < (n : Int) := by omega
          have z1 : ((m : Int) != m) = false := by simp
          go_wp2_with fail
          go_quiet (fail)
          go_wp2_with fail
          go_roundw
          case rel => exact ⟨k + 1, by omega, by go_num, d' + nq, by simp⟩
          case measure => simp [intOf]; omega
        · have e2 : ¬ (k : Int) < (n : Int) := by omega
          go_wp2_with fail
          go_roundw
          case rel => exact ⟨j + 1, by omega, by go_num, d', rfl⟩
          case measure => simp [intOf]; omega
    · have e1 : ¬ (j : Int) < (hs.length : Int) := by omega
      go_wp2_with fail
      go_ret
      exact ⟨rfl, d, rfl⟩
end Go.Proofs.Ytkohlhnkaklnpaa

/-
  The law's still and sevens: what was lent is looked at, and written over.
-/
namespace Go.Proofs.Ytkohlhnkaklnpaa
open Go.RowKit
/-- What was lent, written over up to a place. -/
def over77 (l : List UInt8) (k : Nat) : List UInt8 := List.replicate k 77 ++ l.drop k
theorem over77_length (l : List UInt8) {k : Nat} (h : k ≤ l.length) : (over77 l k).length = l.length := by simp [over77]; omega
theorem over77_set (l : List UInt8) {k : Nat} (h : k < l.length) : (over77 l k).set k 77 = over77 l (k + 1) := by
  unfold over77
  rw [List.set_append_right _ _ (by simp), List.length_replicate, Nat.sub_self, List.drop_eq_getElem_cons h, List.set_cons_zero, List.replicate_succ', List.append_assoc]
  rfl
theorem over77_at (l : List UInt8) {k : Nat} (h : k < l.length) : (over77 l k)[k]'(by rw [over77_length l (Nat.le_of_lt h)]; exact h) = l[k] := by
  unfold over77
  rw [List.getElem_append_right (by simp)]
  simp
theorem over77_end (l : List UInt8) : over77 l l.length = List.replicate l.length 77 := by simp [over77]
theorem below_dn (w : World) : ∀ n, Below w.heap.size w (w.drewN n)
  | 0 => Below.refl _ _
  | n + 1 => by
    have := below_dn w n
    simpa using this.drew
theorem row_drewN {w : World} {g : Nat} {l : List UInt8} (h : Row w g l) (n : Nat) : Row (w.drewN n) g l := ((below_dn w n).block g h.lt).trans h
theorem grown_drewN {w wr : World} {row : Option Nat} (h : w.grownBy wr row) (n : Nat) : w.grownBy (wr.drewN n) row := by
  have hb := below_dn wr n
  exact ⟨hb.os.trans h.1, hb.tape.trans h.2, hb.output.trans h.3, Nat.le_trans h.size hb.size, fun k hk hne => (hb.block k (Nat.lt_of_lt_of_le hk h.size)).trans (h.block k hk hne)⟩
theorem grown_put77 {w wr : World} {g : Nat} (h : w.grownBy wr (some g)) (k : Nat) (u : Value) : w.grownBy (wr.setCell ⟨g, k, none⟩ u) (some g) :=
  ⟨h.1, h.2, h.3, by simpa using h.size, fun q hq hne => (heap_setCell_other wr ⟨g, k, none⟩ q u (fun e => hne (by rw [e]))).trans (h.block q hq hne)⟩
set_option maxHeartbeats 4000000 in
set_option maxRecDepth 100000 in
theorem still_row (g : Nat) (vs : Value) (s : List UInt8) (w : World) (hl : s.length ≤ 140737488351232) (hr : Row w g (s ++ List.replicate 8 201)) (hs : Bs w vs s) (hng : 0 < s.length → ∀ g', vs.ownBlock = some g' → g' ≠ g) :
    Calls Try.prog 12 #[.slice (some ⟨g, 0, none⟩) (s.length + 8) (s.length + 8), vs] w fun e w' => e = .returned (.bool true) ∧ Row w' g (List.replicate (s.length + 8) 77) ∧ w.grownBy w' (some g) := by
  obtain ⟨ao, cs, rfl, h1, h2, h3⟩ := hs
  have H3 := hide h3
  clear h3
  unfold maxLen at h2
  obtain ⟨L, hL⟩ : ∃ L, L = s ++ List.replicate 8 201 := ⟨_, rfl⟩
  have hLl : L.length = s.length + 8 := by rw [hL]; simp
  have ha1 : ∀ j (hj : j < s.length), L[j]? = some s[j] := fun j hj => by
    rw [hL, List.getElem?_append_left hj, List.getElem?_eq_getElem hj]
  have ha2 : ∀ j, s.length ≤ j → j < s.length + 8 → L[j]? = some 201 := fun j h h8 => by
    rw [hL, List.getElem?_append_right h, List.getElem?_replicate, if_pos (by omega)]
  rw [← hL] at hr
  clear hL
  have H1 := hide ha1
  have H2 := hide ha2
  have HLl := hide hLl
  clear ha1 ha2 hLl
  go_enter Try.func12, Try.ntmps12
  go_wp2_with fail
  go_loopw [5, 6] (fun b i wr => ∃ k : Nat, k ≤ s.length + 8 ∧ b = .bool true ∧ i = .int .i64 k ∧ Hid (Row wr g (over77 L k)) ∧ Hid (w.grownBy wr (some g))) (fun _ i _ => s.length + 8 - (intOf i).toNat)
  case atStart => exact ⟨0, Nat.zero_le _, rfl, rfl, by simpa [over77, Hid] using hr, ⟨rfl, rfl, rfl, Nat.le_refl _, fun _ _ _ => rfl⟩⟩
  case round =>
    obtain ⟨k, hk, rfl, rfl, HR, HG⟩ := hrel
    by_cases hlt : k < s.length
    · obtain ⟨g2, o2, rfl, hd⟩ := H3.out k hlt
      have hkL : k < L.length := by have := HLl.out; omega
      have hck := HR.out.cell k (by rw [over77_length L (by omega)]; exact hkL)
      rw [over77_at L hkL, (List.getElem?_eq_some_iff.1 (H1.out k hlt)).2] at hck
      have hfz := HR.out.frozen k
      have hd' : wr.cell? ⟨g2, o2 + k, none⟩ = some (.int .u8 (s[k]).toNat) := HG.out.cell hd (fun e => hng (by omega) g2 rfl (Option.some.inj e))
      have d1 : decide ((k : Int) < (s.length : Int)) = true := by simp; omega
      have d0 : decide ((k : Int) < (s.length : Int) + 8) = true := by simp; omega
      have d2 : decide (s.length ≤ k) = false := by simp; omega
      have e1 : (k : Int) < (s.length : Int) + 8 := by omega
      have e2 : (k : Int) < (s.length : Int) := by omega
      clear H1 H2 H3 hd
      go_wp2_with fail
      go_quiet (fail)
      go_wp2_with fail
      go_roundw
      case rel =>
        refine ⟨k + 1, by omega, rfl, by go_num, ?_, ?_⟩
        · have := (row_drewN HR.out nq).set k 77
          rw [over77_set L hkL] at this
          exact this
        · exact grown_put77 (grown_drewN HG.out nq) k _
      case measure => simp [intOf]; omega
    · by_cases hlm : k < s.length + 8
      · have hkL : k < L.length := by have := HLl.out; omega
        have hck := HR.out.cell k (by rw [over77_length L (by omega)]; exact hkL)
        rw [over77_at L hkL, (List.getElem?_eq_some_iff.1 (H2.out k (by omega) hlm)).2] at hck
        have hfz := HR.out.frozen k
        have d1 : decide ((k : Int) < (s.length : Int)) = false := by simp; omega
        have d0 : decide ((k : Int) < (s.length : Int) + 8) = true := by simp; omega
        have d2 : decide (s.length ≤ k) = true := by simp; omega
        have e1 : (k : Int) < (s.length : Int) + 8 := by omega
        have e2 : ¬ (k : Int) < (s.length : Int) := by omega
        clear H1 H2 H3
        go_wp2_with fail
        go_quiet (fail)
        go_wp2_with fail
        go_roundw
        case rel =>
          refine ⟨k + 1, by omega, rfl, by go_num, ?_, ?_⟩
          · have := (row_drewN HR.out nq).set k 77
            rw [over77_set L hkL] at this
            exact this
          · exact grown_put77 (grown_drewN HG.out nq) k _
        case measure => simp [intOf]; omega
      · have d0 : decide ((k : Int) < (s.length : Int) + 8) = false := by simp; omega
        have e1 : ¬ (k : Int) < (s.length : Int) + 8 := by omega
        obtain rfl : k = s.length + 8 := by omega
        go_wp2_with fail
        go_ret
        have hr := HR.out
        rw [← HLl.out, over77_end, HLl.out] at hr
        exact ⟨rfl, hr, HG.out⟩

theorem bs_block {w : World} {v : Value} {l : List UInt8} (h : Bs w v l) (h0 : 0 < l.length) : ∀ g, v.ownBlock = some g → g < w.heap.size := by
  intro g hg
  obtain ⟨ao, c, rfl, _, _, h3⟩ := h
  obtain ⟨g', o, rfl, hc⟩ := h3 0 h0
  simp only [Value.ownBlock, Option.some.injEq] at hg
  subst hg
  exact World.block_lt_of_cell? w _ hc
theorem sev_set (n : Nat) {k : Nat} (h : k < n) : (List.replicate k (77 : UInt8) ++ List.replicate (n - k) 0).set k 77 = List.replicate (k + 1) 77 ++ List.replicate (n - (k + 1)) 0 := by
  rw [List.set_append_right _ _ (by simp), List.length_replicate, Nat.sub_self, show n - k = (n - (k + 1)) + 1 by omega, List.replicate_succ, List.set_cons_zero, List.replicate_succ' (n := k), List.append_assoc]
  rfl
set_option maxHeartbeats 1000000 in
set_option maxRecDepth 100000 in
theorem sevens_any (n : Nat) (w : World) (hn : n ≤ 140737488355328) :
    Calls Try.prog 13 #[.int .i64 n] w fun e w' => e = .returned (.slice (some ⟨w.heap.size, 0, none⟩) n n) ∧ Row w' w.heap.size (List.replicate n 77) ∧ Below w.heap.size w w' := by
  obtain ⟨i0, hi, hz0, hz1, hz2⟩ := info_parts info5
  go_enter Try.func13, Try.ntmps13
  go_wp2_with (at_make; refine wpList_make_full _ rfl _ _ 22 rfl w.heap.size 5 i0 (.int .u8 0) 1 Try.underlying22 hi hz0 hz1 .i64 .i64 _ _ n rfl rfl ?c1 ?c2 ?c3 ?c4 ?c5 ?_)
  case c1 => rfl
  case c2 => rfl
  case c3 => rw [hz2]; omega
  case c4 => unfold maxLen; omega
  case c5 => exact Nat.le_refl _
  intro w1 hown hgrow
  rw [made_bytes] at hown
  have hb1 : Below w.heap.size w w1 := (Below.refl _ _).grown hgrow (Nat.le_refl _) (by intro k hk; cases hk)
  have HR1 := hide (own_block hown).1
  clear hown hgrow
  go_wp2_with fail
  go_loopw [4] (fun i wr => ∃ k : Nat, k ≤ n ∧ i = .int .i64 k ∧ Row wr w.heap.size (List.replicate k 77 ++ List.replicate (n - k) 0) ∧ Below w.heap.size w wr) (fun i _ => n - (intOf i).toNat)
  case atStart => exact ⟨0, Nat.zero_le _, rfl, by simpa using HR1.out, hb1⟩
  case round =>
    obtain ⟨k, hk, rfl, hr, hb⟩ := hrel
    by_cases hlt : k < n
    · have e1 : (k : Int) < (n : Int) := by omega
      have hfz := hr.frozen k
      have hcl := hr.cell k (by simp; omega)
      have HR := hide hr
      clear hr
      go_wp2_with fail
      refine ⟨⟨k + 1, by omega, by go_num, ?_, hb.setCell (Nat.le_refl _) _⟩, by simp [intOf]; omega⟩
      have := HR.out.set k 77
      rw [sev_set n hlt] at this
      exact this
    · have e1 : ¬ (k : Int) < (n : Int) := by omega
      obtain rfl : k = n := by omega
      rw [Nat.sub_self, List.replicate_zero, List.append_nil] at hr
      go_wp2_with fail
      go_ret
      exact ⟨rfl, hr, hb⟩
end Go.Proofs.Ytkohlhnkaklnpaa

/-
  The document's Put and PutInt.
-/
namespace Go.Proofs.Ytkohlhnkaklnpaa
open Go.RowKit

set_option maxHeartbeats 8000000 in
set_option maxRecDepth 100000 in
theorem rput_any (v : Value) (l : List UInt8) (x : Nat) (w : World) (h : Bs w v l) (hv : NilOr v) (hx : x < 18446744073709551616) (hl : l.length + 20 ≤ 140737488355328) :
    Calls Try.prog 38 #[v, .int .u64 x] w fun e w' => ∃ v', e = .returned v' ∧ w'.ownsRow w.heap.size 5 1 v' (l.length + (Lib.uvarint x).length) (Lib.byteCells (l ++ Lib.uvarint x)) ∧ Below w.heap.size w w' := by
  obtain ⟨i0, hi, hz0, hz1, hz2⟩ := info_parts info5
  have hlen := Lib.uvarint_length64 hx
  go_enter Try.func38, Try.ntmps38
  go_wp2_with (at_builtin; refine wpList_append_bs _ rfl _ _ rfl w.heap.size _ 0 [] rfl (World.ownsRow_nil _ _ _ _) _ l rfl h hv ?a1 ?a2 ?_)
  case a1 => omega
  case a2 => exact Nat.le_refl _
  intro v1 w1 hown0 hb1
  go_wp2
  go_loopw [5, 1] (fun vb vx wr => ∃ (y : Nat) (pre : List UInt8), vx = .int .u64 y ∧ y ≤ x ∧ Hid (Lib.uvarint x = pre ++ Lib.uvarint y) ∧ wr.ownsRow w.heap.size 5 1 vb (l.length + pre.length) (Lib.byteCells (l ++ pre)) ∧ Below w.heap.size w wr)
    (fun _ vx _ => (intOf vx).toNat)
  case atStart => exact ⟨x, [], rfl, Nat.le_refl _, rfl, by simpa using hown0, hb1⟩
  case round =>
    obtain ⟨y, pre, rfl, hy, HS, hown1, hnx⟩ := hrel
    have hpl : pre.length ≤ 9 := by
      have h2 := congrArg List.length HS.out
      have hyp := Lib.uvarint_pos y
      rw [List.length_append] at h2
      omega
    by_cases h128 : 128 ≤ y
    · have hge : (128 : Int) ≤ (y : Int) := by omega
      have hw : ((y : Int) % 128 + 128) % 256 = ((y % 128 + 128 : Nat) : Int) := by omega
      go_wp2_with (at_builtin; refine wpList_append_own _ rfl _ _ 22 rfl w.heap.size 5 i0 (.int .u8 0) 1 1 Try.underlying22 hi hz0 hz1 hz2 rfl (by decide) _ _ _ rfl (hown1.alloc _) ⟨wr.heap.size, 0, none⟩ 1 1 [Value.int .u8 ((y % 128 + 128 : Nat) : Int)] rfl rfl ?c1 ?c2 ?c3 ?c4 ?c5 ?_)
      case c1 =>
        intro j u hj
        match j, hj with
        | 0, hj => simp at hj; subst hj; simp [Addr.add]
      case c2 => intro u hu; simp at hu; subst hu; rfl
      case c3 => unfold maxLen; omega
      case c4 => omega
      case c5 => have := hnx.size; simp; omega
      intro v' w2 hown' hgrow _
      have hnx1 : Below w.heap.size w w2 := (hnx.alloc (by have := hnx.size; omega) _).grown hgrow (by have := hnx.size; simp; omega) (fun k hk => (hown1.lt k hk).1)
      go_wp2
      go_roundw
      case rel =>
        refine ⟨y / 128, pre ++ [(y % 128 + 128).toUInt8], by go_num, by omega, by show Lib.uvarint x = _; rw [HS.out, Lib.uvarint_big h128]; simp, ?_, hnx1⟩
        have ec : ((y % 128 + 128 : Nat) : Int) = (y : Int) % 128 + 128 := by omega
        rw [← List.append_assoc, Lib.byteCells_snoc (l ++ pre) (by omega), List.length_append, List.length_singleton, ← Nat.add_assoc, ec]
        simpa using hown'
      case measure => simp [intOf]; omega
    · have hge : ¬ (128 : Int) ≤ (y : Int) := by omega
      have HM := hide (Lib.uvarint_small (show y < 128 by omega))
      go_wp2_with (at_builtin; refine wpList_append_own _ rfl _ _ 22 rfl w.heap.size 5 i0 (.int .u8 0) 1 1 Try.underlying22 hi hz0 hz1 hz2 rfl (by decide) _ _ _ rfl (hown1.alloc _) ⟨wr.heap.size, 0, none⟩ 1 1 [Value.int .u8 (y : Int)] rfl rfl ?d1 ?d2 ?d3 ?d4 ?d5 ?_)
      case d2 => first | rfl | (intro u hu; simp at hu; subst hu; rfl) | simp [Value.oneCell']
      case d3 => unfold maxLen; omega
      case d4 => omega
      case d5 => have := hnx.size; simp; omega
      intro v' w2 hown' hgrow _
      have hnx1 : Below w.heap.size w w2 := (hnx.alloc (by have := hnx.size; omega) _).grown hgrow (by have := hnx.size; simp; omega) (fun k hk => (hown1.lt k hk).1)
      go_wp2
      go_ret
      refine ⟨v', rfl, ?_, hnx1⟩
      rw [HS.out, HM.out, ← List.append_assoc, Lib.byteCells_snoc (l ++ pre) (by omega), List.length_append, List.length_singleton, ← Nat.add_assoc]
      simpa using hown'

end Go.Proofs.Ytkohlhnkaklnpaa
