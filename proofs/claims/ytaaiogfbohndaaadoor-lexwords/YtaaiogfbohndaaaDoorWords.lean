/-
  LexWords: the walk.
-/
import Derived.Test.YtaaiogfbohndaaaDoorWrd
import Derived.Deep.RegionHeld3
import Derived.OrdersHeld
namespace Go.Proofs.YtaaiogfbohndaaaDoor
open Go.RowKit
set_option maxRecDepth 1000000
theorem below_drewN (w : World) (d : Nat) : Below w.heap.size w (w.drewN d) := ⟨rfl, rfl, rfl, Nat.le_refl _, fun _ _ => rfl⟩
theorem info9 : (Tryd.prog.info? 9).map (fun i => (i.zero, i.size, i.bytes)) = some (some (.string ByteArray.empty), 1, 16) := by kernel_rfl
theorem info22 : (Tryd.prog.info? 22).map (fun i => (i.zero, i.size, i.bytes)) = some (some (.slice none 0 0), 1, 24) := by kernel_rfl
theorem wsL_len : wsL.length = 26 := rfl
def wsS (i : Nat) : ByteArray := ⟨(ws.getD i []).toArray⟩
theorem wsL_at (i : Nat) (hi : i < 26) : wsL[i]? = some (.string (wsS i)) := by
  have : ws.length = 26 := rfl
  unfold wsL wsS
  rw [List.getElem?_map, List.getElem?_eq_getElem (by omega), List.getD_eq_getElem?_getD, List.getElem?_eq_getElem (by omega)]
  rfl
def mkT : List ByteArray := [⟨#[111, 110, 101]⟩, ⟨#[116, 119, 111]⟩, ⟨#[116, 104, 114, 101, 101]⟩]
def mkS (j : Nat) : ByteArray := mkT.getD j ByteArray.empty
def sl (g : Nat) : Value := .slice (some ⟨g, 0, none⟩) 26 26
/-- The three marks, in their block. -/
theorem mk_at (w : World) (n : Nat) (hn : n < 3) : (w.alloc (.cells #[.string ⟨#[111, 110, 101]⟩, .string ⟨#[116, 119, 111]⟩, .string ⟨#[116, 104, 114, 101, 101]⟩] 9)).cell? ⟨w.heap.size, n, none⟩ = some (.string (mkS n)) := by
  rw [cell_of_row _ _ n _ 9 (0, 0) Array.getElem?_push_size]
  match n, hn with
  | 0, _ => rfl
  | 1, _ => rfl
  | 2, _ => rfl
/-- Behind n rounds: b: what the document says; b + 1 to b + 3: what came; b + 4: the list of them; vl: what has grown. -/
def Lw (w1 : World) (b n : Nat) (vl : Value) (ls : List Value) (W : World) : Prop :=
  Below w1.heap.size w1 W ∧ w1.heap.size ≤ b ∧ b + 5 ≤ W.heap.size ∧ W.heap[b]? = some (.cells wsL.toArray 9 (0, 0)) ∧ W.heap[b + 4]? = some (.cells #[sl (b + 1), sl (b + 2), sl (b + 3)] 22 (0, 0)) ∧
  (∀ k, n ≤ k → k < 3 → W.heap[b + 1 + k]? = some (.cells wsL.toArray 9 (0, 0))) ∧
  W.ownsRow (b + 5) 22 1 vl n ls ∧ (∀ j (h : j < ls.length), W.ownsRow 0 9 1 ls[j] 96 (List.replicate 96 (.string (mkS j))) ∧ ∀ g, ls[j].ownBlock = some g → (g = b + 1 + j ∨ b + 5 ≤ g) ∧ vl.ownBlock ≠ some g)
section
variable {w1 W W' : World} {b n : Nat} {vl : Value} {ls : List Value}
theorem Lw.later (h : Lw w1 b n vl ls W) (hb : Below W.heap.size W W') : Lw w1 b n vl ls W' := by
  obtain ⟨h1, h2, h3, h4, h5, h6, h7, h8⟩ := h
  have hs := hb.size
  exact ⟨h1.trans (hb.mono h1.size), h2, by omega, (hb.block b (by omega)).trans h4, (hb.block (b + 4) (by omega)).trans h5, fun k hk hk3 => (hb.block (b + 1 + k) (by omega)).trans (h6 k hk hk3), own_later h7 hb, fun j hj => ⟨own_later (h8 j hj).1 hb, (h8 j hj).2⟩⟩
theorem Lw.want (h : Lw w1 b n vl ls W) (i : Nat) (hi : i < 26) : W.cell? ⟨b, i, none⟩ = some (.string (wsS i)) := by
  rw [cell_of_row _ _ i _ 9 (0, 0) h.2.2.2.1, List.getElem?_toArray]
  exact wsL_at i hi
theorem Lw.came (h : Lw w1 b n vl ls W) (k : Nat) (hk : k < 3) : W.cell? ⟨b + 4, k, none⟩ = some (sl (b + 1 + k)) := by
  rw [cell_of_row _ _ k _ 22 (0, 0) h.2.2.2.2.1]
  match k, hk with
  | 0, _ => rfl
  | 1, _ => rfl
  | 2, _ => rfl
theorem Lw.at (h : Lw w1 b n vl ls W) (k i : Nat) (hn : n ≤ k) (hk : k < 3) (hi : i < 26) : W.cell? ⟨b + 1 + k, i, none⟩ = some (.string (wsS i)) := by
  rw [cell_of_row _ _ i _ 9 (0, 0) (h.2.2.2.2.2.1 k hn hk), List.getElem?_toArray]
  exact wsL_at i hi
theorem Lw.row (h : Lw w1 b n vl ls W) (hn : n < 3) : W.ownsRow 0 9 1 (sl (b + 1 + n)) 26 wsL :=
  ⟨by rw [wsL_len], .inr ⟨b + 1 + n, 26, wsL.toArray, rfl, Nat.zero_le _, h.2.2.2.2.2.1 n (Nat.le_refl _) hn, Nat.le_refl _, by unfold maxLen; omega, rfl, rfl⟩⟩
/-- A round is over: v: the row as it has grown; vl': the list of what has grown. -/
theorem Lw.next {W2 : World} {v vl' : Value} (h : Lw w1 b n vl ls W) (hn : n < 3) (hm : Mv W W' (fun k => k = b + 1 + n)) (ho : W'.ownsRow 0 9 1 v 96 (List.replicate 96 (.string (mkS n)))) (hv : ∀ g, v.ownBlock = some g → g = b + 1 + n ∨ W.heap.size ≤ g)
    (hol : W2.ownsRow (b + 5) 22 1 vl' (n + 1) (ls ++ [v])) (hg : W'.grownBy W2 vl.ownBlock) (hat : vl'.ownBlock = vl.ownBlock ∨ vl'.ownBlock = some W'.heap.size) : Lw w1 b (n + 1) vl' (ls ++ [v]) W2 := by
  obtain ⟨h1, h2, h3, h4, h5, h6, h7, h8⟩ := h
  have hll : ls.length = n := by have := h7.1; omega
  have hm2 := Mv.of_grown hg
  have hs := hm.2.2.2.1
  have hs2 := hg.size
  have hvl : ∀ g, vl.ownBlock = some g → b + 5 ≤ g ∧ g < W.heap.size := fun g e => h7.lt g e
  have hmm : Mv W W2 (fun k => k = b + 1 + n ∨ vl.ownBlock = some k) := (hm.wide (fun k e => .inl e)).trans hm2 (fun q _ e => .inr e)
  have hne : ∀ g, g < W'.heap.size → vl.ownBlock ≠ some g → vl'.ownBlock ≠ some g := fun g hlt hn e => by
    rcases hat with hat | hat
    · rw [hat] at e; exact hn e
    · rw [hat] at e
      have := Option.some.inj e
      omega
  refine ⟨hmm.below h1 h1.size (fun k hk e => ?_), h2, by omega, (hmm.2.2.2.2 b (by omega) (fun e => ?_)).trans h4, (hmm.2.2.2.2 (b + 4) (by omega) (fun e => ?_)).trans h5, fun k hk hk3 => (hmm.2.2.2.2 (b + 1 + k) (by omega) (fun e => ?_)).trans (h6 k (by omega) hk3), hol, fun j hj => ?_⟩
  · rcases e with e | e
    · omega
    · have := hvl k e; omega
  · rcases e with e | e
    · omega
    · have := hvl b e; omega
  · rcases e with e | e
    · omega
    · have := hvl (b + 4) e; omega
  · rcases e with e | e
    · omega
    · have := hvl (b + 1 + k) e; omega
  · have hkind : ∀ g, v.ownBlock = some g → vl.ownBlock ≠ some g := fun g e e' => by
      have := hvl g e'
      rcases hv g e with h | h <;> omega
    by_cases c : j < ls.length
    · rw [List.getElem_append_left c]
      obtain ⟨a1, a2⟩ := h8 j c
      refine ⟨hmm.own a1 (fun g e e' => ?_), fun g e => ⟨(a2 g e).1, hne g (by have := (a1.lt g e).2; omega) (a2 g e).2⟩⟩
      rcases e' with e' | e'
      · rcases (a2 g e).1 with h | h <;> omega
      · exact (a2 g e).2 e'
    · have hj' : j = n := by simp at hj; omega
      subst hj'
      rw [List.getElem_append_right (by omega)]
      simp only [hll, Nat.sub_self, List.getElem_cons_zero]
      refine ⟨hm2.own ho (fun g e e' => hkind g e e'), fun g e => ⟨?_, hne g (ho.lt g e).2 (hkind g e)⟩⟩
      rcases hv g e with h | h
      · exact .inl h
      · exact .inr (by omega)
end
theorem pick_any (c : Int) (n : Nat) (hn : 0 < n) (hn2 : n ≤ 1000) (hc : -9223372036854775808 ≤ c ∧ c ≤ 9223372036854775807) (w : World) : Calls Tryd.prog 15 #[.int .i64 c, .int .i64 (n : Nat)] w fun e w' => (∃ k : Nat, k < n ∧ e = .returned (.int .i64 (k : Nat))) ∧ w' = w := by
  go_enter Tryd.func15, Tryd.ntmps15
  go_wp2
  · have h : c < 0 := by assumption
    have e1 : (-(c + 1).tmod (n : Int)) = (-(c + 1)) % (n : Int) := by
      rw [← Int.neg_tmod, Int.tmod_eq_emod_of_nonneg (by omega)]
    have h0 := Int.emod_nonneg (-(c + 1)) (show (n : Int) ≠ 0 by omega)
    have h1 := Int.emod_lt_of_pos (-(c + 1)) (show (0 : Int) < n by omega)
    obtain ⟨k, hk⟩ := Int.eq_ofNat_of_zero_le h0
    rw [e1, hk]
    go_ret
    exact ⟨⟨k, by omega, rfl⟩, rfl⟩
  · have h : 0 ≤ c := by assumption
    have h0 := Int.emod_nonneg c (show (n : Int) ≠ 0 by omega)
    have h1 := Int.emod_lt_of_pos c (show (0 : Int) < n by omega)
    obtain ⟨k, hk⟩ := Int.eq_ofNat_of_zero_le h0
    rw [hk]
    go_ret
    exact ⟨⟨k, by omega, rfl⟩, rfl⟩
theorem lw_start (w1 : World) : Lw w1 w1.heap.size 0 (.slice none 0 0) [] (((((w1.alloc (Obj.cells wsL.toArray 9)).alloc (Obj.cells wsL.toArray 9)).alloc (Obj.cells wsL.toArray 9)).alloc (Obj.cells wsL.toArray 9)).alloc (Obj.cells #[sl (w1.heap.size + 1), sl (w1.heap.size + 2), sl (w1.heap.size + 3)] 22)) := by
  have q0 := Below.refl w1.heap.size w1
  have q1 := q0.alloc (Nat.le_refl _) (.cells wsL.toArray 9)
  have q2 := q1.alloc q1.size (.cells wsL.toArray 9)
  have q3 := q2.alloc q2.size (.cells wsL.toArray 9)
  have q4 := q3.alloc q3.size (.cells wsL.toArray 9)
  have q5 := q4.alloc q4.size (Obj.cells #[sl (w1.heap.size + 1), sl (w1.heap.size + 2), sl (w1.heap.size + 3)] 22)
  have old : ∀ (W : World) (o : Obj) (k : Nat) (x : Obj), W.heap[k]? = some x → (W.alloc o).heap[k]? = some x := fun W o k x h => (Below.heap_alloc W o k (Array.getElem?_eq_some_iff.1 h).1).trans h
  have new : ∀ (W : World) (o : Obj) (k : Nat), W.heap.size = k → (W.alloc o).heap[k]? = some o := fun W o k h => by subst h; exact Array.getElem?_push_size
  refine ⟨q5, Nat.le_refl _, by simp, ?_, ?_, fun k _ hk => ?_, World.ownsRow_nil _ _ _ _, fun j hj => absurd hj (by simp)⟩
  · exact old _ _ _ _ (old _ _ _ _ (old _ _ _ _ (old _ _ _ _ (new _ _ _ rfl))))
  · exact new _ _ _ (by simp)
  · match k, hk with
    | 0, _ => exact old _ _ _ _ (old _ _ _ _ (old _ _ _ _ (new _ _ _ (by simp))))
    | 1, _ => exact old _ _ _ _ (old _ _ _ _ (new _ _ _ (by simp)))
    | 2, _ => exact old _ _ _ _ (new _ _ _ (by simp))
theorem rep_set (m : ByteArray) (i : Nat) (hi : i < 26) : (List.replicate i (Value.string m) ++ wsL.drop i).set i (.string m) = List.replicate (i + 1) (Value.string m) ++ wsL.drop (i + 1) := by
  have h : i < wsL.length := hi
  rw [List.set_append_right _ _ (by simp), List.length_replicate, Nat.sub_self, List.drop_eq_getElem_cons h, List.set_cons_zero, List.replicate_succ', List.append_assoc]
  rfl
theorem str_new (w1 : World) (x : Value) (e : TypeId) : ∀ (j : Nat) (u : Value), [x][j]? = some u → (w1.alloc (.cells #[x] e)).cell? ((⟨w1.heap.size, 0, none⟩ : Addr).add j) = some u := by
  intro j u hj
  have hh : (w1.alloc (.cells #[x] e)).heap[w1.heap.size]? = some (.cells #[x] e (0, 0)) := Array.getElem?_push_size
  have hc := fun j => cell_of_row _ _ j _ e (0, 0) hh
  rw [← hj]
  simp only [Addr.add, Nat.zero_add]
  split
  · rename_i h0
    subst h0
    rw [hc 0]
    rfl
  · rw [hc j]
    simp
set_option maxHeartbeats 16000000 in
theorem words_walk (x : Int) (hx : -9223372036854775808 ≤ x ∧ x ≤ 9223372036854775807) (w : World) (hw : Wd w) (ht : Tb w) :
    Calls Tryd.prog 4 #[.int .i64 x] w fun e w' => e = .returned (.bool true) ∧ Below w.heap.size w w' := by
  have HT := hide ht
  go_enter Tryd.func4, Tryd.ntmps4
  go_upto_region 2 with (go_at_call 8; refine (shown_any w hw).mono ?_; rintro e w1 ⟨rfl, hb1, hw1⟩)
  have HB1 := hide hb1
  have ht1 : ∀ W, Below w1.heap.size w1 W → Tb W := fun W h => HT.out.below (hb1.trans (h.mono hb1.size)) (Nat.le_refl _)
  have q0 := Below.refl w1.heap.size w1
  have q1 := q0.alloc (Nat.le_refl _) (.cells wsL.toArray 9)
  have q2 := q1.alloc q1.size (.cells wsL.toArray 9)
  have q3 := q2.alloc q2.size (.cells wsL.toArray 9)
  go_upto_region 3 with (go_at_call 13; refine (dwords_any _).mono ?_; rintro e w' ⟨rfl, rfl⟩)
  go_upto_region 4 with (go_at_call 14; refine (words_any _ (ht1 _ q1)).mono ?_; rintro e w' ⟨rfl, rfl⟩)
  go_upto_region 5 with (go_at_call 14; refine (words_any _ (ht1 _ q2)).mono ?_; rintro e w' ⟨rfl, rfl⟩)
  go_upto_region 6 with (go_at_call 14; refine (words_any _ (ht1 _ q3)).mono ?_; rintro e w' ⟨rfl, rfl⟩)
  go_wp2_with fail
  have hlw := lw_start w1
  have HLW := hide hlw
  have HT1 := hide ht1
  have hxx := hx
  have HX := hide hxx
  clear hlw ht1 q0 q1 q2 q3 hb1 hw1 hw ht hx hxx HT
  obtain ⟨i9, hi9, hy0, hy1, hy2⟩ := info_parts info9
  obtain ⟨i22, hi22, hz0, hz1, hz2⟩ := info_parts info22
  show Code.wp _ _ _ _ (((((w1.alloc (Obj.cells wsL.toArray 9)).alloc (Obj.cells wsL.toArray 9)).alloc (Obj.cells wsL.toArray 9)).alloc (Obj.cells wsL.toArray 9)).alloc (Obj.cells #[sl (w1.heap.size + 1), sl (w1.heap.size + 2), sl (w1.heap.size + 3)] 22))
  generalize ((((w1.alloc (Obj.cells wsL.toArray 9)).alloc (Obj.cells wsL.toArray 9)).alloc (Obj.cells wsL.toArray 9)).alloc (Obj.cells wsL.toArray 9)).alloc (Obj.cells #[sl (w1.heap.size + 1), sl (w1.heap.size + 2), sl (w1.heap.size + 3)] 22) = W0 at HLW ⊢
  obtain ⟨b, hb⟩ : ∃ b, b = w1.heap.size := ⟨_, rfl⟩
  rw [← hb] at HLW ⊢
  clear hb
  go_loopg [9, 10] 3 (fun q v9 v10 wr => ∃ (n : Nat) (ls : List Value), q = 3 - n ∧ n ≤ 3 ∧ v10 = .int .i64 (n : Int) ∧ Hid (Lw w1 b n v9 ls wr))
  case atStart => exact ⟨0, [], rfl, by omega, rfl, HLW⟩
  case round =>
    clear HLW
    obtain ⟨n, ls, hq, hn, rfl, HL⟩ := hrel
    obtain ⟨W, hWr⟩ : ∃ W, W = wr := ⟨_, rfl⟩
    rw [← hWr] at HL ⊢
    clear hWr
    by_cases hlt : n < 3
    · have e1 : (n : Int) < 3 := by omega
      obtain ⟨al, cl, rfl⟩ := own_len HL.out.2.2.2.2.2.2.1
      go_wp2_with fail
      go_loopg [11] (3 - n) (fun q v11 wr => ∃ k d : Nat, q = 3 - k ∧ n ≤ k ∧ k ≤ 3 ∧ v11 = .int .i64 (k : Int) ∧ wr = W.drewN d)
      case atStart => exact ⟨n, 0, rfl, by omega, by omega, rfl, rfl⟩
      case round =>
        obtain ⟨k, d, hqk, hnk, hk3, rfl, rfl⟩ := hrel
        by_cases hkl : k < 3
        · have e2 : (k : Int) < 3 := by omega
          have cm : W.cell? ⟨b + 1 + 1 + 1 + 1, k, none⟩ = some (.slice (some ⟨b + 1 + k, 0, none⟩) 26 26) := HL.out.came k hkl
          go_wp2_with fail
          go_loopg [12] 26 (fun q v12 wr => ∃ i d : Nat, q = 26 - i ∧ i ≤ 26 ∧ v12 = .int .i64 (i : Int) ∧ wr = W.drewN d)
          case atStart => exact ⟨0, d, rfl, by omega, rfl, rfl⟩
          case round =>
            obtain ⟨i, d', hqi, hi, rfl, rfl⟩ := hrel
            by_cases hil : i < 26
            · have e3 : (i : Int) < 26 := by omega
              have x1 := HL.out.want i hil
              have x2 := HL.out.at k i hnk hkl hil
              generalize wsS i = sx at x1 x2
              go_wp2_with fail
              go_quiet (fail)
              go_wp2_with fail
              go_roundg (26 - (i + 1))
              case measure => omega
              case rel => exact ⟨i + 1, d' + nq, rfl, by omega, by simp, by simp⟩
            · have e3 : ¬ (i : Int) < 26 := by omega
              go_wp2_with fail
              go_roundg (3 - (k + 1))
              case measure => omega
              case rel => exact ⟨k + 1, d', rfl, by omega, by omega, by simp, rfl⟩
        · have e2 : ¬ (k : Int) < 3 := by omega
          have HL1 := hide (HL.out.later (below_drewN W d))
          clear HL
          generalize W.drewN d = W1 at *
          have cm : W1.cell? ⟨b + 1 + 1 + 1 + 1, n, none⟩ = some (.slice (some ⟨b + 1 + n, 0, none⟩) 26 26) := HL1.out.came n hlt
          have cm2 : (W1.alloc (.cells #[.string ⟨#[111, 110, 101]⟩, .string ⟨#[116, 119, 111]⟩, .string ⟨#[116, 104, 114, 101, 101]⟩] 9)).cell? ⟨W1.heap.size, n, none⟩ = some (.string (mkS n)) := mk_at W1 n hlt
          have HL2 := hide (HL1.out.later ((Below.refl _ W1).alloc (Nat.le_refl _) (.cells #[.string ⟨#[111, 110, 101]⟩, .string ⟨#[116, 119, 111]⟩, .string ⟨#[116, 104, 114, 101, 101]⟩] 9)))
          obtain ⟨m, hm⟩ : ∃ m, m = mkS n := ⟨_, rfl⟩
          have HM := hide hm
          rw [← hm] at cm2
          clear hm
          go_wp2_with fail
          have hrow := HL2.out.row hlt
          unfold sl at hrow
          have HR := hide hrow
          clear hrow cm2 cm HL1
          generalize W1.alloc (.cells #[.string ⟨#[111, 110, 101]⟩, .string ⟨#[116, 119, 111]⟩, .string ⟨#[116, 104, 114, 101, 101]⟩] 9) = W2 at *
          go_loopg [15] 26 (fun q v15 wr => ∃ i : Nat, q = 26 - i ∧ i ≤ 26 ∧ v15 = .int .i64 (i : Int) ∧ Hid (wr.ownsRow 0 9 1 (.slice (some ⟨b + 1 + n, 0, none⟩) 26 26) 26 (List.replicate i (.string m) ++ wsL.drop i)) ∧ Hid (Mv W2 wr (fun k => k = b + 1 + n)))
          case atStart => exact ⟨0, rfl, by omega, rfl, HR, Mv.refl _ _⟩
          case round =>
            clear HR
            obtain ⟨i, hqi, hi, rfl, HR, HMv⟩ := hrel
            by_cases hil : i < 26
            · have e3 : (i : Int) < 26 := by omega
              have x1 := HR.out.cellAt i (by omega)
              rw [List.getElem?_append_right (by simp), List.length_replicate, Nat.sub_self, List.getElem?_drop, Nat.add_zero i, wsL_at i hil] at x1
              have f1 := HR.out.frozenAt i
              generalize wsS i = sx at x1
              go_wp2_with fail
              go_roundg (26 - (i + 1))
              case measure => omega
              case rel =>
                refine ⟨i + 1, rfl, by omega, by simp, ?_, HMv.out.trans (Mv.set wr (b + 1 + n) i _) (fun _ _ e => e)⟩
                have s1 := (HR.out.stored i (.string m)).1
                rw [rep_set m i hil] at s1
                exact s1
            · have e3 : ¬ (i : Int) < 26 := by omega
              obtain rfl : i = 26 := by omega
              have hrow := HR.out
              rw [List.drop_eq_nil_of_le (by rw [wsL_len]; omega), List.append_nil] at hrow
              have HR2 := hide hrow
              clear hrow HR
              go_wp2_with fail
              go_loopg [13, 16] 70 (fun q v13 v16 wr => ∃ i : Nat, q = 70 - i ∧ i ≤ 70 ∧ v16 = .int .i64 (i : Int) ∧ Hid (wr.ownsRow 0 9 1 v13 (26 + i) (List.replicate (26 + i) (.string m))) ∧ Hid (Mv W2 wr (fun k => k = b + 1 + n)) ∧ Hid (∀ g, v13.ownBlock = some g → g = b + 1 + n ∨ W2.heap.size ≤ g))
              case atStart => exact ⟨0, rfl, by omega, rfl, HR2, HMv, fun g e => .inl (by simpa [Value.ownBlock] using e.symm)⟩
              case round =>
                clear HR2 HMv
                obtain ⟨i, hqi, hi, rfl, HR, HMv, HV⟩ := hrel
                obtain ⟨a3, c3, rfl⟩ := own_len HR.out
                by_cases hil : i < 70
                · have e4 : (i : Int) < 70 := by omega
                  go_wp2_with (at_builtin; apply stopHere)
                  show wpList _ _ _ _ _ _
                  refine wpList_append_keep rfl _ _ 22 rfl 0 9 i9 (.string ByteArray.empty) 1 16 Tryd.underlying22 hi9 hy0 hy1 hy2 rfl (by decide) _ _ _ rfl (HR.out.alloc _) ⟨_, 0, none⟩ 1 1 [.string m] rfl rfl (str_new _ _ _) ?b2 ?b3 ?b4 ?b5 ?_
                  case b2 =>
                    intro u hu
                    simp only [List.mem_cons, List.not_mem_nil, or_false] at hu
                    subst hu
                    rfl
                  case b3 => unfold maxLen; omega
                  case b4 => omega
                  case b5 => omega
                  intro v' w3 ho3 hg3 hat3 _
                  obtain ⟨a4, c4, rfl⟩ := own_len ho3
                  have hszm := HMv.out.2.2.2.1
                  have HM3 := hide ((HMv.out.trans (Mv.alloc wr (.cells #[.string m] 9) (fun _ => False)) (fun _ _ e => e.elim)).trans (Mv.of_grown hg3) (fun q hq e => by
                    rcases HV.out q e with h | h
                    · exact h
                    · omega))
                  have HV3 : Hid (∀ g, (Value.slice a4 (26 + i + 1) c4).ownBlock = some g → g = b + 1 + n ∨ W2.heap.size ≤ g) := fun g e => by
                    rcases hat3 with h | h
                    · rw [h] at e; exact HV.out g e
                    · rw [h] at e
                      have := Option.some.inj e
                      exact .inr (by simp at this; omega)
                  have HR3 := hide ho3
                  clear ho3 hg3 hat3 HR HMv HV
                  go_wp2_with fail
                  go_roundg (70 - (i + 1))
                  case measure => omega
                  case rel =>
                    refine ⟨i + 1, rfl, by omega, by simp, ?_, HM3, HV3⟩
                    have := HR3.out
                    rw [← List.replicate_succ' (n := 26 + i)] at this
                    exact this
                · have e4 : ¬ (i : Int) < 70 := by omega
                  obtain rfl : i = 70 := by omega
                  have HOL := hide (HL2.out.2.2.2.2.2.2.1)
                  have hvl : wr.ownsRow (b + 5) 22 1 (.slice al n cl) n ls := HMv.out.own HOL.out (fun g e e' => by have := (HOL.out.lt g e).1; omega)
                  have hb5 := HL2.out.2.2.1
                  have hszm := HMv.out.2.2.2.1
                  go_wp2_with (at_builtin; apply stopHere)
                  show wpList _ _ _ _ _ _
                  refine wpList_append_keep rfl _ _ 40 rfl (b + 5) 22 i22 (.slice none 0 0) 1 24 Tryd.underlying40 hi22 hz0 hz1 hz2 rfl (by decide) _ _ _ rfl (hvl.alloc _) ⟨_, 0, none⟩ 1 1 [.slice a3 (26 + 70) c3] rfl rfl (str_new _ _ _) ?b2 ?b3 ?b4 ?b5 ?_
                  case b2 =>
                    intro u hu
                    simp only [List.mem_cons, List.not_mem_nil, or_false] at hu
                    subst hu
                    rfl
                  case b3 => unfold maxLen; omega
                  case b4 => omega
                  case b5 => simp; omega
                  intro v' w3 ho3 hg3 hat3 _
                  have HN := hide (HL2.out.next hlt (HMv.out.trans (Mv.alloc wr _ (fun _ => False)) (fun _ _ e => e.elim)) (by rw [← HM.out]; exact HR.out.alloc _) HV.out ho3 hg3 hat3)
                  clear ho3 hg3 hat3 HR HMv HV HOL hvl
                  go_wp2_with fail
                  go_roundg (3 - (n + 1))
                  case measure => omega
                  case rel => exact ⟨n + 1, _, rfl, by omega, by simp, HN⟩
    · have e1 : ¬ (n : Int) < 3 := by omega
      obtain rfl : n = 3 := by omega
      obtain ⟨al, cl, rfl⟩ := own_len HL.out.2.2.2.2.2.2.1
      obtain ⟨gl, rfl⟩ := own_addr HL.out.2.2.2.2.2.2.1 (by omega)
      obtain ⟨hcl1, hcl2⟩ := own_cap HL.out.2.2.2.2.2.2.1
      go_wp2_with fail
      go_loopg [17] 3 (fun q v17 wr => ∃ n : Nat, q = 3 - n ∧ n ≤ 3 ∧ v17 = .int .i64 (n : Int) ∧ Hid (Lw w1 b 3 (.slice (some ⟨gl, 0, none⟩) 3 cl) ls wr))
      case atStart => exact ⟨0, rfl, by omega, rfl, HL⟩
      case round =>
        clear HL
        obtain ⟨n, hqn, hn, rfl, HL⟩ := hrel
        by_cases hnl : n < 3
        · have e2 : (n : Int) < 3 := by omega
          go_wp2_with fail
          go_loopg [18] 96 (fun q v18 wr => ∃ i : Nat, q = 96 - i ∧ i ≤ 96 ∧ v18 = .int .i64 (i : Int) ∧ Hid (Lw w1 b 3 (.slice (some ⟨gl, 0, none⟩) 3 cl) ls wr))
          case atStart => exact ⟨0, rfl, by omega, rfl, HL⟩
          case round =>
            clear HL
            obtain ⟨i, hqi, hi, rfl, HL⟩ := hrel
            have hll : ls.length = 3 := by have := HL.out.2.2.2.2.2.2.1.1; omega
            have hln : n < ls.length := by omega
            obtain ⟨ho, _⟩ := HL.out.2.2.2.2.2.2.2 n hln
            have c9 := HL.out.2.2.2.2.2.2.1.cellAt n (by omega)
            rw [List.getElem?_eq_getElem hln] at c9
            obtain ⟨an, cn, hls⟩ := own_len ho
            rw [hls] at c9 ho
            obtain ⟨gn, rfl⟩ := own_addr ho (by omega)
            obtain ⟨hcn1, hcn2⟩ := own_cap ho
            by_cases hil : i < 96
            · have e3 : (i : Int) < 96 := by omega
              have x1 := ho.cellAt i (by omega)
              rw [List.getElem?_replicate, if_pos hil] at x1
              have x2 := mk_at wr n hnl
              generalize mkS n = sx at x1 x2
              clear hls hll ho
              have x1a : ∀ o, (wr.alloc o).cell? ⟨gn, i, none⟩ = some (.string sx) := fun o => (World.cell?_of_block (Below.heap_alloc wr o gn (World.block_lt_of_cell? _ _ x1))).trans x1
              have c9a : ∀ o, (wr.alloc o).cell? ⟨gl, n, none⟩ = some (.slice (some ⟨gn, 0, none⟩) 96 cn) := fun o => (World.cell?_of_block (Below.heap_alloc wr o gl (World.block_lt_of_cell? _ _ c9))).trans c9
              go_upto_region 38 with fail
              go_region
              rename_i K hK
              refine hK _ _ ?_
              clear hK
              go_wp2_with fail
              go_roundg (96 - (i + 1))
              case measure => omega
              case rel => exact ⟨i + 1, rfl, by omega, by simp, HL.out.later (((Below.refl _ wr).alloc (Nat.le_refl _) _).drew)⟩
            · have e3 : ¬ (i : Int) < 96 := by omega
              clear hls hll ho
              go_wp2_with fail
              go_roundg (3 - (n + 1))
              case measure => omega
              case rel => exact ⟨n + 1, rfl, by omega, by simp, HL⟩
        · have e2 : ¬ (n : Int) < 3 := by omega
          have hb3 := HL.out.1
          have tb := HT1.out _ hb3
          have HB3 := hide hb3
          have HL3 := hide (HL.out.later ((Below.refl _ wr).alloc (Nat.le_refl _) (.cells wsL.toArray 9)))
          have hq2 := (Below.refl _ wr).alloc (Nat.le_refl _) (.cells wsL.toArray 9)
          have HQ2 := hide hq2
          have xn : ∀ k, k < 26 → (wr.alloc (.cells wsL.toArray 9)).cell? ⟨wr.heap.size, k, none⟩ = some (.string (wsS k)) := fun k hk => by
            rw [cell_of_row _ _ k _ 9 (0, 0) Array.getElem?_push_size, List.getElem?_toArray]
            exact wsL_at k hk
          have HXN := hide xn
          clear hb3 hq2 xn HL
          go_upto_region 41 with (go_at_call 14; refine (words_any _ tb).mono ?_; rintro e w' ⟨rfl, rfl⟩)
          go_upto_region 42 with (go_at_call 15; refine (pick_any x 26 (by decide) (by decide) HX.out _).mono ?_; rintro e w' ⟨⟨k, hk, rfl⟩, rfl⟩)
          have x1 := HL3.out.want k hk
          have x2 := HXN.out k hk
          generalize wr.alloc (.cells wsL.toArray 9) = W5 at *
          generalize wsS k = sx at x1 x2
          have e3 : (k : Int) < 26 := by omega
          go_quiet (fail)
          go_wp2_with fail
          go_ret
          exact ⟨rfl, (HB1.out.trans ((HL3.out.1).mono HB1.out.size)).trans ((below_drewN W5 nq).mono (Nat.le_trans HB1.out.size HL3.out.1.size))⟩
end Go.Proofs.YtaaiogfbohndaaaDoor
