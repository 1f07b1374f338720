import Derived.Test.YtpolajoephjdhaaGreatDoorLsO
import Derived.Test.YtpolajoephjdhaaGreatDoorDeG
import Derived.Test.YtpolajoephjdhaaGreatDoorShM
import Derived.BigQuiet
/-
  Lists of numbers that read as a mark: for the law's ints, at many lists.
-/
namespace Go.Proofs.YtpolajoephjdhaaGreatDoor
open Go.RowKit
/-- The mark of the i-th list. -/
def mkN (i : Nat) : Value := .int .i64 (-1000 - (i : Int))
def marN (i : Nat) (l : List Value) (k : Nat) : List Value := List.replicate k (mkN i) ++ l.drop k
theorem marN_len (i : Nat) (l : List Value) (k : Nat) (hk : k ≤ l.length) : (marN i l k).length = l.length := by simp [marN]; omega
theorem marN_set (i : Nat) (l : List Value) (k : Nat) (hk : k < l.length) : (marN i l k).set k (mkN i) = marN i l (k + 1) := by
  unfold marN
  rw [List.set_append_right _ _ (by simp), List.length_replicate, Nat.sub_self, List.drop_eq_getElem_cons hk, List.set_cons_zero, List.replicate_succ', List.append_assoc]
  rfl
theorem marN_end (i : Nat) (l : List Value) : marN i l l.length = List.replicate l.length (mkN i) := by simp [marN]
theorem repN_snoc (i n : Nat) : List.replicate n (mkN i) ++ [mkN i] = List.replicate (n + 1) (mkN i) := by rw [List.replicate_succ']
/-- A list that reads as the mark of the i-th. -/
def RdN (w : World) (v : Value) (n i : Nat) : Prop := ∃ ao c, v = .slice ao n c ∧ n ≤ c ∧ c ≤ 9223372036854775807 ∧ (0 < n → ∃ g, ao = some ⟨g, 0, none⟩ ∧ ∀ k, k < n → w.cell? ⟨g, k, none⟩ = some (mkN i))
theorem own_rdn {w : World} {N n i : Nat} {v : Value} (h : w.ownsRow N 3 1 v n (List.replicate n (mkN i))) : RdN w v n i := by
  have h' := h
  obtain ⟨-, ⟨rfl, rfl⟩ | ⟨g, cap, cur, rfl, hB, hg, h1, h2, -⟩⟩ := h
  · exact ⟨none, 0, rfl, Nat.le_refl _, by omega, fun e => by omega⟩
  · refine ⟨_, _, rfl, h1, by unfold maxLen at h2; omega, fun _ => ⟨g, rfl, fun k hk => ?_⟩⟩
    exact (h'.cellAt k (by omega)).trans (by rw [List.getElem?_replicate, if_pos hk])
theorem RdN.mv {w w' : World} {v : Value} {n i : Nat} {S : Nat → Prop} (h : RdN w v n i) (hm : Mv w w' S) (hs : ∀ j, v.ownBlock = some j → ¬ S j) : RdN w' v n i := by
  obtain ⟨ao, c, rfl, h1, h2, h3⟩ := h
  refine ⟨ao, c, rfl, h1, h2, fun h0 => ?_⟩
  obtain ⟨g, rfl, h4⟩ := h3 h0
  exact ⟨g, rfl, fun k hk => hm.cell (h4 k hk) (hs g rfl)⟩
theorem RdN.later {w w' : World} {v : Value} {n i : Nat} (h : RdN w v n i) (hb : Below w.heap.size w w') : RdN w' v n i := h.mv (Mv.of_below hb (fun _ => False)) (fun _ _ e => e)
/-- What is appended behind leaves it as it reads. -/
theorem RdN.keep {w w' : World} {v u : Value} {n k i : Nat} (h : RdN w v n i) (hg : w.grownBy w' u.ownBlock) (hu : ∀ g j, u.ownBlock = some g → j < k * 1 → w'.cell? ⟨g, j, none⟩ = w.cell? ⟨g, j, none⟩) (hk : n ≤ k) : RdN w' v n i := by
  obtain ⟨ao, c, rfl, h1, h2, h3⟩ := h
  refine ⟨ao, c, rfl, h1, h2, fun h0 => ?_⟩
  obtain ⟨g, rfl, h4⟩ := h3 h0
  refine ⟨g, rfl, fun j hj => ?_⟩
  by_cases e : u.ownBlock = some g
  · exact (hu g j e (by omega)).trans (h4 j hj)
  · have m := (Mv.refl w (fun q => u.ownBlock = some q)).grown hg (fun _ _ e => e)
    exact m.cell (h4 j hj) e
theorem RdN.at {w : World} {v : Value} {n k i : Nat} (h : RdN w v n i) (hk : k < n) : ∃ g c, v = .slice (some ⟨g, 0, none⟩) n c ∧ w.cell? ⟨g, k, none⟩ = some (mkN i) := by
  obtain ⟨ao, c, rfl, h1, h2, h3⟩ := h
  obtain ⟨g, rfl, h4⟩ := h3 (by omega)
  exact ⟨g, c, rfl, h4 k hk⟩
/-- Lists of numbers in the hands of one owner, apart from one another: the first k are marked. -/
def Mks (w : World) (N : Nat) (xs : List Value) (ls : List (List Value)) (k : Nat) : Prop := xs.length = ls.length ∧ xs.Pairwise Ap ∧ ∀ i (h : i < xs.length) (h' : i < ls.length), w.ownsRow N 3 1 xs[i] ls[i].length (if i < k then List.replicate ls[i].length (mkN i) else ls[i])
theorem Mks.mv {w w' : World} {N k : Nat} {xs : List Value} {ls : List (List Value)} {S : Nat → Prop} (h : Mks w N xs ls k) (hm : Mv w w' S) (hs : ∀ v ∈ xs, ∀ j, v.ownBlock = some j → ¬ S j) : Mks w' N xs ls k := ⟨h.1, h.2.1, fun i a b => hm.own (h.2.2 i a b) (fun g e => hs _ (List.getElem_mem a) g e)⟩
theorem pair_at {xs : List Value} (h : xs.Pairwise Ap) (i j : Nat) (hi : i < xs.length) (hj : j < xs.length) (hne : i ≠ j) : ∀ g, (xs[i]).ownBlock = some g → (xs[j]).ownBlock = some g → False := by
  rw [List.pairwise_iff_getElem] at h
  rcases Nat.lt_or_ge i j with hl | hl
  · exact fun g a b => h i j hi hj hl g a b
  · exact fun g a b => h j i hj hi (by omega) g b a
/-- One list more is marked: what else the owner holds stays. -/
theorem Mks.next {w w' : World} {N k : Nat} {xs : List Value} {ls : List (List Value)} (h : Mks w N xs ls k) (hk : k < xs.length) (hk' : k < ls.length) (hm : Mv w w' (fun j => (xs[k]).ownBlock = some j)) (ho : w'.ownsRow N 3 1 xs[k] ls[k].length (List.replicate ls[k].length (mkN k))) : Mks w' N xs ls (k + 1) := by
  refine ⟨h.1, h.2.1, fun i a b => ?_⟩
  by_cases e : i = k
  · subst e
    rw [if_pos (by omega)]
    exact ho
  · have h1 := hm.own (h.2.2 i a b) (fun g e1 e2 => pair_at h.2.1 i k a hk e g e1 e2)
    by_cases hl : i < k
    · rw [if_pos hl] at h1
      rw [if_pos (by omega)]
      exact h1
    · rw [if_neg hl] at h1
      rw [if_neg (by omega)]
      exact h1
end Go.Proofs.YtpolajoephjdhaaGreatDoor

/-
  Lists of numbers that were marked, and grow one by one.
-/
namespace Go.Proofs.YtpolajoephjdhaaGreatDoor
open Go.RowKit
/-- Lists that were marked; some of them grown, by headers of their own. -/
structure Gro (W w : World) (N Q : Nat) (xs : List Value) (ls : List (List Value)) (ys : List Value) (vl : Value) : Prop where
  row : w.ownsRow Q 42 1 vl (xs.length + ys.length) (xs ++ ys)
  old : ∀ a (h : a < xs.length) (h' : a < ls.length), RdN w xs[a] ls[a].length a
  new : ∀ a (h : a < ys.length) (h' : a < ls.length), RdN w ys[a] (ls[a].length + 64) a
  own : ∀ a (h : a < xs.length) (h' : a < ls.length), ys.length ≤ a → w.ownsRow N 3 1 xs[a] ls[a].length (List.replicate ls[a].length (mkN a))
  blk : ∀ a (h : a < ys.length) (h' : a < xs.length), ∀ j, (ys[a]).ownBlock = some j → j < w.heap.size ∧ (W.heap.size ≤ j ∨ (xs[a]).ownBlock = some j)
  offX : ∀ a (h : a < xs.length), ∀ j, (xs[a]).ownBlock = some j → vl.ownBlock ≠ some j
  offY : ∀ a (h : a < ys.length), ∀ j, (ys[a]).ownBlock = some j → vl.ownBlock ≠ some j
theorem Gro.next {W w0 w w9 : World} {N Q : Nat} {xs ys : List Value} {ls : List (List Value)} {vl vl' v7 : Value} (h : Gro W w0 N Q xs ls ys vl) (hp : xs.Pairwise Ap) (hxW : ∀ v ∈ xs, ∀ j, v.ownBlock = some j → j < W.heap.size) (hW : W.heap.size ≤ w0.heap.size) (hx : ys.length < xs.length) (hl : ys.length < ls.length) (m1 : Mv w0 w (fun j => (xs[ys.length]).ownBlock = some j)) (rd : RdN w xs[ys.length] ls[ys.length].length ys.length) (o : w.ownsRow N 3 1 v7 (ls[ys.length].length + 64) (List.replicate (ls[ys.length].length + 64) (mkN ys.length))) (bl : ∀ j, v7.ownBlock = some j → w0.heap.size ≤ j ∨ (xs[ys.length]).ownBlock = some j) (m2 : Mv w w9 (fun j => vl.ownBlock = some j)) (ho : w9.ownsRow Q 42 1 vl' (xs.length + (ys.length + 1)) (xs ++ (ys ++ [v7]))) (hv : ∀ j, vl.ownBlock = some j → j < w0.heap.size) (hb : ∀ j, vl'.ownBlock = some j → w.heap.size ≤ j ∨ vl.ownBlock = some j) : Gro W w9 N Q xs ls (ys ++ [v7]) vl' := by
  have s1 := m1.size
  have s2 := m2.size
  have x7 : ∀ j, v7.ownBlock = some j → vl.ownBlock ≠ some j := fun j e e2 => by
    rcases bl j e with h1 | h1
    · have := hv j e2
      omega
    · exact h.offX _ hx j h1 e2
  have yx : ∀ a (ha : a < ys.length), ∀ j, (ys[a]).ownBlock = some j → ¬ (xs[ys.length]).ownBlock = some j := fun a ha j e1 e2 => by
    rcases (h.blk a ha (by omega) j e1).2 with h1 | h1
    · have := hxW _ (List.getElem_mem hx) j e2
      omega
    · exact pair_at hp a ys.length (by omega) hx (by omega) j h1 e2
  refine ⟨by rw [List.length_append]; exact ho, fun a ha hb' => ?_, fun a ha hb' => ?_, fun a ha hb' hc => ?_, fun a ha hb' j e => ?_, fun a ha j e e2 => ?_, fun a ha j e e2 => ?_⟩
  · by_cases ea : a = ys.length
    · subst ea
      exact rd.mv m2 (fun j e1 e2 => h.offX _ hx j e1 e2)
    · exact ((h.old a ha hb').mv m1 (fun j e1 e2 => pair_at hp a ys.length ha hx ea j e1 e2)).mv m2 (fun j e1 e2 => h.offX a ha j e1 e2)
  · rw [List.length_append] at ha
    by_cases ea : a = ys.length
    · subst ea
      rw [List.getElem_append_right (Nat.le_refl _)]
      simp only [Nat.sub_self, List.getElem_singleton]
      exact (own_rdn o).mv m2 (fun j e1 e2 => x7 j e1 e2)
    · have ha' : a < ys.length := by simp at ha; omega
      rw [List.getElem_append_left ha']
      exact ((h.new a ha' hb').mv m1 (fun j e1 e2 => yx a ha' j e1 e2)).mv m2 (fun j e1 e2 => h.offY a ha' j e1 e2)
  · rw [List.length_append] at hc
    simp at hc
    exact m2.own (m1.own (h.own a ha hb' (by omega)) (fun g e1 e2 => pair_at hp a ys.length ha hx (by omega) g e1 e2)) (fun g e1 e2 => h.offX a ha g e1 e2)
  · rw [List.length_append] at ha
    by_cases ea : a = ys.length
    · subst ea
      rw [List.getElem_append_right (Nat.le_refl _)] at e
      simp only [Nat.sub_self, List.getElem_singleton] at e
      have := (o.lt j e).2
      refine ⟨by omega, ?_⟩
      rcases bl j e with h1 | h1
      · exact .inl (by omega)
      · exact .inr h1
    · have ha' : a < ys.length := by simp at ha; omega
      rw [List.getElem_append_left ha'] at e
      obtain ⟨h1, h2⟩ := h.blk a ha' hb' j e
      exact ⟨by omega, h2⟩
  · rcases hb j e2 with h1 | h1
    · have := hxW _ (List.getElem_mem ha) j e
      omega
    · exact h.offX a ha j e h1
  · rw [List.length_append] at ha
    by_cases ea : a = ys.length
    · subst ea
      rw [List.getElem_append_right (Nat.le_refl _)] at e
      simp only [Nat.sub_self, List.getElem_singleton] at e
      rcases hb j e2 with h1 | h1
      · have := (o.lt j e).2
        omega
      · exact x7 j e h1
    · have ha' : a < ys.length := by simp at ha; omega
      rw [List.getElem_append_left ha'] at e
      rcases hb j e2 with h1 | h1
      · have := (h.blk a ha' (by omega) j e).1
        omega
      · exact h.offY a ha' j e h1
end Go.Proofs.YtpolajoephjdhaaGreatDoor

/-
  The law's ints, at many lists.
-/
namespace Go.Proofs.YtpolajoephjdhaaGreatDoor
open Go.RowKit
set_option maxRecDepth 100000
theorem infoLN : (Tryz.prog.info? 42).map (fun i => (i.zero, i.size, i.bytes)) = some (some (.slice none 0 0), 1, 24) := by kernel_rfl
set_option maxHeartbeats 8000000 in
theorem ints_any {W : World} {Q N : Nat} {vl : Value} {xs : List Value} {ls : List (List Value)} (hO : W.ownsRow Q 42 1 vl xs.length xs) (hM : Mks W N xs ls 0) (hN : N ≤ W.heap.size) (hn : xs.length ≤ 1000) (hz : ∀ l ∈ ls, l.length ≤ 1000) : Calls Tryz.prog 31 #[vl] W fun e w' => e = .returned (.bool true) ∧ Mv W w' (fun j => vl.ownBlock = some j ∨ ∃ v ∈ xs, v.ownBlock = some j) := by
  obtain ⟨ao, c, rfl⟩ := own_len hO
  obtain ⟨n, hnl⟩ : ∃ n, n = xs.length := ⟨_, rfl⟩
  rw [← hnl] at hO hn ⊢
  have HO := hide hO
  have HM := hide hM
  have HN := hide hnl
  have HQ : Hid (∀ v ∈ xs, ∀ j, v.ownBlock = some j → ¬ (Value.slice ao n c).ownBlock = some j) := fun v hv j e1 e2 => by
    obtain ⟨i, hi, rfl⟩ := List.mem_iff_getElem.1 hv
    exact own_types hO (hM.2.2 i hi (by rw [← hM.1]; exact hi)) (by decide) j e2 e1
  have VH : Hid (∀ wr, Mv W wr (fun j => ∃ v ∈ xs, v.ownBlock = some j) → wr.ownsRow Q 42 1 (.slice ao n c) n xs) := fun wr hm => hm.own HO.out (fun g e1 e2 => by
    obtain ⟨v, hv, e⟩ := e2
    exact HQ.out v hv g e e1)
  have hcap := own_cap hO
  clear hO hM hnl
  go_enter Tryz.func31, Tryz.ntmps31
  go_wp2_with fail
  go_loopw [4] (fun v4 wr => ∃ i : Nat, v4 = .int .i64 (i : Int) ∧ i ≤ n ∧ Hid (Mks wr N xs ls i) ∧ Hid (Mv W wr (fun j => ∃ v ∈ xs, v.ownBlock = some j))) (fun v4 _ => n - (intOf v4).toNat)
  case atStart => exact ⟨0, rfl, by omega, HM.out, Mv.refl _ _⟩
  case round =>
    obtain ⟨i, rfl, hi1, hmk, hmv⟩ := hrel
    by_cases hlt : i < n
    · have hix : i < xs.length := by rw [← HN.out]; exact hlt
      have hil : i < ls.length := by rw [← hmk.out.1]; exact hix
      have o0 := hmk.out.2.2 i hix hil
      rw [if_neg (by omega)] at o0
      have hxm : xs[i] ∈ xs := List.getElem_mem hix
      have hsz := hz _ (List.getElem_mem hil)
      obtain ⟨l, hl⟩ : ∃ l, l = ls[i] := ⟨_, rfl⟩
      obtain ⟨xv, hxv⟩ : ∃ v, v = xs[i] := ⟨_, rfl⟩
      rw [← hl, ← hxv] at o0
      rw [← hl] at hsz
      have NXT : Hid (∀ w', Mv wr w' (fun j => xv.ownBlock = some j) → w'.ownsRow N 3 1 xv l.length (List.replicate l.length (mkN i)) → Mks w' N xs ls (i + 1) ∧ Mv W w' (fun j => ∃ v ∈ xs, v.ownBlock = some j)) := fun w' hm ho => by
        subst hl hxv
        exact ⟨hmk.out.next hix hil hm ho, hmv.out.trans hm (fun j _ e => ⟨_, hxm, e⟩)⟩
      have CX : Hid (∀ w', Mv wr w' (fun j => xv.ownBlock = some j) → w'.ownsRow Q 42 1 (.slice ao n c) n xs ∧ xs[i]? = some xv) := fun w' hm => ⟨hm.own (VH.out wr hmv.out) (fun g e1 e2 => HQ.out xv (hxv ▸ hxm) g e2 e1), by rw [hxv]; exact List.getElem?_eq_getElem hix⟩
      have O0 := hide o0
      obtain ⟨ax, cx, rfl⟩ := own_len o0
      obtain ⟨m, hm⟩ : ∃ m, m = l.length := ⟨_, rfl⟩
      rw [← hm] at hsz
      have HML := hide hm
      have hlt' : (i : Int) < (n : Int) := by omega
      clear hl hxv hxm o0 hm
      rw [← HML.out] at O0 NXT CX
      go_wp2_with fail
      go_loopw [5] (fun v5 wx => ∃ k : Nat, v5 = .int .i64 (k : Int) ∧ k ≤ m ∧ Hid (wx.ownsRow N 3 1 (.slice ax m cx) m (marN i l k)) ∧ Hid (Mv wr wx (fun j => (Value.slice ax m cx).ownBlock = some j))) (fun v5 _ => m - (intOf v5).toNat)
      case atStart => exact ⟨0, rfl, by omega, O0.out, Mv.refl _ _⟩
      case round =>
        obtain ⟨k, rfl, hk, ho, hm2⟩ := hrel
        obtain ⟨hh, hxi⟩ := CX.out wr hm2.out
        obtain ⟨gq, cq, e, hc⟩ := own_some hh (by omega)
        injection e with e1 e2 e3
        subst e1 e3
        have y0 := (hc i (by omega)).trans hxi
        clear hc hh hxi e2
        have hlt9 : (i : Int) < (n : Int) := by omega
        by_cases hk2 : k < m
        · obtain ⟨g, c', e, hd⟩ := own_some ho.out (by omega)
          injection e with e1 e2 e3
          subst e1 e3
          have hkm : k < l.length := by rw [← HML.out]; exact hk2
          have hkl : k < (marN i l k).length := by rw [marN_len i l k (by omega)]; exact hkm
          have d0 := (hd k (by omega)).trans (List.getElem?_eq_getElem hkl)
          generalize (marN i l k)[k] = old at d0
          have z0 := ho.out.frozenAt k
          have st1 := (ho.out.stored k (mkN i)).1
          rw [marN_set i l k hkm] at st1
          have NX : Hid ((wr.setCell ⟨g, k, none⟩ (.int .i64 (-1000 - (i : Int)))).ownsRow N 3 1 (.slice (some ⟨g, 0, none⟩) m cx) m (marN i l (k + 1))) := st1
          have MX := hide (hm2.out.trans ((Mv.refl wr (fun j => (Value.slice (some ⟨g, 0, none⟩) m cx).ownBlock = some j)).set (g := g) rfl k (.int .i64 (-1000 - (i : Int)))) (fun _ _ e => e))
          have hk9 : (k : Int) < (m : Int) := by omega
          clear hd st1 e2 hkl
          go_wp2_with fail
          exact ⟨⟨k + 1, by go_num, by omega, NX.out, MX.out⟩, by simp [intOf]; omega⟩
        · obtain rfl : k = m := by omega
          have ho' := ho.out
          have he := marN_end i l
          rw [← HML.out] at he
          rw [he] at ho'
          obtain ⟨n1, n2⟩ := NXT.out wr hm2.out ho'
          have N1 := hide n1
          have N2 := hide n2
          clear n1 n2 ho' he
          go_wp2_with fail
          exact ⟨⟨i + 1, by go_num, by omega, N1.out, N2.out⟩, by simp [intOf]; omega⟩
    · obtain rfl : i = n := by omega
      have PW := hide HM.out.2.1
      have XB : Hid (∀ v ∈ xs, ∀ j, v.ownBlock = some j → j < W.heap.size) := fun v hv j e => by
        obtain ⟨a, ha, rfl⟩ := List.mem_iff_getElem.1 hv
        exact ((HM.out.2.2 a ha (by rw [← HM.out.1]; exact ha)).lt j e).2
      have OWN : ∀ a (h : a < xs.length) (h' : a < ls.length), wr.ownsRow N 3 1 xs[a] ls[a].length (List.replicate ls[a].length (mkN a)) := fun a h h' => by
        have := hmk.out.2.2 a h h'
        rw [if_pos (by have := HN.out; omega)] at this
        exact this
      have GR0 : Hid (Gro W wr N Q xs ls [] (.slice ao i c)) := ⟨by rw [List.append_nil, List.length_nil, Nat.add_zero, ← HN.out]; exact VH.out wr hmv.out, fun a h h' => own_rdn (OWN a h h'), fun a h => absurd h (by simp), fun a h h' _ => OWN a h h', fun a h => absurd h (by simp), fun a h j e e2 => HQ.out _ (List.getElem_mem h) j e e2, fun a h => absurd h (by simp)⟩
      have MV0 : Hid (Mv W wr (fun j => (Value.slice ao i c).ownBlock = some j ∨ ∃ v ∈ xs, v.ownBlock = some j)) := hmv.out.mono (fun _ _ e => .inr e)
      have LE : Hid (xs.length = ls.length) := HM.out.1
      obtain ⟨ic, hi, hz0, hz1, hz2⟩ := info_parts infoN
      clear OWN hmk hmv VH HO
      go_wp2_with fail
      go_loopw [6, 0] (fun v6 vl wr => ∃ (p : Nat) (ys : List Value), v6 = .int .i64 (p : Int) ∧ p ≤ i ∧ Hid (ys.length = p) ∧ Hid (Gro W wr N Q xs ls ys vl) ∧ Hid (Mv W wr (fun j => (Value.slice ao i c).ownBlock = some j ∨ ∃ v ∈ xs, v.ownBlock = some j)) ∧ Hid (∀ j, vl.ownBlock = some j → W.heap.size ≤ j ∨ (Value.slice ao i c).ownBlock = some j)) (fun v6 _ _ => i - (intOf v6).toNat)
      case atStart => exact ⟨0, [], rfl, by omega, rfl, GR0.out, MV0.out, fun j e => .inr e⟩
      case round =>
        obtain ⟨p, ys, rfl, hp1, hyl, hg, hmv2, hbv⟩ := hrel
        by_cases hlt2 : p < i
        · have hpx : p < xs.length := by rw [← HN.out]; exact hlt2
          have hpl : p < ls.length := by rw [← LE.out]; exact hpx
          obtain ⟨nn, hnn⟩ : ∃ nn, nn = xs.length + ys.length := ⟨_, rfl⟩
          have ROW := hg.out.row
          rw [← hnn] at ROW
          obtain ⟨gq, cq, rfl, hc⟩ := own_some ROW (by omega)
          have y0 : wr.cell? ⟨gq, p, none⟩ = some xs[p] := (hc p (by omega)).trans (by rw [List.getElem?_append_left hpx]; exact List.getElem?_eq_getElem hpx)
          have OW := hide (hg.out.own p hpx hpl (by rw [hyl.out]; exact Nat.le_refl _))
          have RD0 := hide (own_rdn OW.out)
          have hsz := hz _ (List.getElem_mem hpl)
          have i1 : (p : Int) < (i : Int) := by omega
          have i2 : (p : Int) < (nn : Int) := by omega
          have hcq := own_cap ROW
          have hnb : nn ≤ 2000 := by have := HN.out; have := hyl.out; omega
          have NXT : Hid (∀ (w w9 : World) (v7 vl' : Value), Mv wr w (fun j => (xs[p]).ownBlock = some j) → RdN w xs[p] ls[p].length p → w.ownsRow N 3 1 v7 (ls[p].length + 64) (List.replicate (ls[p].length + 64) (mkN p)) → (∀ j, v7.ownBlock = some j → wr.heap.size ≤ j ∨ (xs[p]).ownBlock = some j) → Mv w w9 (fun j => (Value.slice (some ⟨gq, 0, none⟩) nn cq).ownBlock = some j) → w9.ownsRow Q 42 1 vl' (nn + 1) ((xs ++ ys) ++ [v7]) → (∀ j, vl'.ownBlock = some j → w.heap.size ≤ j ∨ (Value.slice (some ⟨gq, 0, none⟩) nn cq).ownBlock = some j) → Gro W w9 N Q xs ls (ys ++ [v7]) vl' ∧ Mv W w9 (fun j => (Value.slice ao i c).ownBlock = some j ∨ ∃ v ∈ xs, v.ownBlock = some j) ∧ (∀ j, vl'.ownBlock = some j → W.heap.size ≤ j ∨ (Value.slice ao i c).ownBlock = some j) ∧ (ys ++ [v7]).length = p + 1) := by
            intro w w9 v7 vl' m1 rd o bl m2 ho hb
            have hy := hyl.out
            subst hy
            refine ⟨hg.out.next PW.out XB.out hmv2.out.size hpx hpl m1 rd o bl m2 (by rw [← List.append_assoc, ← Nat.add_assoc, ← hnn]; exact ho) (fun j e => (hg.out.row.lt j e).2) hb, ?_, ?_, by simp⟩
            · exact (hmv2.out.trans m1 (fun j _ e => .inr ⟨_, List.getElem_mem hpx, e⟩)).trans m2 (fun j hj e => by
                rcases hbv.out j e with h | h
                · omega
                · exact .inl h)
            · intro j e
              rcases hb j e with h | h
              · have := hmv2.out.size
                have := m1.size
                exact .inl (by omega)
              · exact hbv.out j h
          have HW : Hid (∀ w, Mv wr w (fun j => (xs[p]).ownBlock = some j) → w.ownsRow Q 42 1 (.slice (some ⟨gq, 0, none⟩) nn cq) nn (xs ++ ys)) := fun w m => m.own ROW (fun g e1 e2 => hg.out.offX p hpx g e2 e1)
          have HNs : Hid (N ≤ wr.heap.size ∧ Q ≤ wr.heap.size) := ⟨Nat.le_trans hN hmv2.out.size, by have := (ROW.lt gq rfl); omega⟩
          obtain ⟨xv, hxv⟩ : ∃ v, v = xs[p] := ⟨_, rfl⟩
          obtain ⟨m, hm⟩ : ∃ m, m = ls[p].length := ⟨_, rfl⟩
          obtain ⟨zs, hzs⟩ : ∃ z, z = xs ++ ys := ⟨_, rfl⟩
          rw [← hxv] at y0 OW RD0 NXT HW
          rw [← hm] at OW RD0 NXT hsz
          rw [← hzs] at NXT HW
          clear ROW hc hnn hxv hm hzs hpx hpl GR0 MV0
          obtain ⟨wq, hwq⟩ : ∃ X, X = wr := ⟨_, rfl⟩
          subst hwq
          go_wp2_with fail
          go_loopw [8, 7] (fun v8 v7 wx => ∃ k : Nat, v8 = .int .i64 (k : Int) ∧ k ≤ 64 ∧ Hid (wx.ownsRow N 3 1 v7 (m + k) (List.replicate (m + k) (mkN p))) ∧ Hid (Mv wq wx (fun j => xv.ownBlock = some j)) ∧ Hid (RdN wx xv m p) ∧ Hid (∀ j, v7.ownBlock = some j → wq.heap.size ≤ j ∨ xv.ownBlock = some j)) (fun v8 _ _ => 64 - (intOf v8).toNat)
          case atStart => exact ⟨0, rfl, by omega, OW.out, Mv.refl _ _, RD0.out, fun j e => .inr e⟩
          case round =>
            obtain ⟨k, rfl, hk, ho, hm2, hrd, hbl⟩ := hrel
            have hs2 := hm2.out.size
            have hns := HNs.out
            by_cases hk2 : k < 64
            · have o1 := ho.out
              have hmk : m + k ≤ 2100 := by omega
              clear y0
              go_wp2_with (at_builtin; refine wpList_append_keep rfl _ _ 42 rfl N 3 ic (.int .i64 0) 1 8 Tryz.underlying42 hi hz0 hz1 hz2 rfl (by decide) _ _ _ rfl (o1.alloc _) ⟨wr.heap.size, 0, none⟩ 1 1 [.int .i64 (-1000 - (p : Int))] rfl rfl ?c1 ?c2 ?c3 ?c4 ?c5 ?_)
              case c1 =>
                intro j u hj
                match j, hj with
                | 0, hj => simp at hj; subst hj; simp [Addr.add]
              case c2 => intro u hu; simp at hu; subst hu; rfl
              case c3 => unfold maxLen; omega
              case c4 => omega
              case c5 => simp; omega
              intro v' w8 hown' hgrow hblk hkeep
              have hown2 : w8.ownsRow N 3 1 v' (m + k + 1) (List.replicate (m + k) (mkN p) ++ [mkN p]) := hown'
              rw [repN_snoc] at hown2
              have O8 := hide hown2
              have M8 := hide ((hm2.out.alloc _).grown hgrow (fun j hj e => by
                rcases hbl.out j e with h | h
                · omega
                · exact h))
              have R8 : Hid (RdN w8 xv m p) := (hrd.out.later (below_alloc wr _)).keep (k := m + k) hgrow (fun g j e hj => hkeep g j e (by omega)) (by omega)
              have BL8 : Hid (∀ j, v'.ownBlock = some j → wq.heap.size ≤ j ∨ xv.ownBlock = some j) := fun j e => by
                rcases hblk with h | h
                · exact hbl.out j (h ▸ e)
                · rw [e] at h
                  injection h with h
                  exact .inl (by omega)
              clear hown' hown2 hgrow hblk hkeep o1
              go_wp2_with fail
              exact ⟨⟨k + 1, by go_num, by omega, O8.out, M8.out, R8.out, BL8.out⟩, by simp [intOf]; omega⟩
            · obtain rfl : k = 64 := by omega
              have o1 := HW.out wr hm2.out
              obtain ⟨a7, c7, rfl⟩ := own_len ho.out
              obtain ⟨idl, ki, kz0, kz1, kz2⟩ := info_parts infoLN
              clear y0
              go_wp2_with (at_builtin; refine wpList_append_keep rfl _ _ 41 rfl Q 42 idl (.slice none 0 0) 1 24 Tryz.underlying41 ki kz0 kz1 kz2 rfl (by decide) _ _ _ rfl (o1.alloc _) ⟨wr.heap.size, 0, none⟩ 1 1 [.slice a7 (m + 64) c7] rfl rfl ?c1 ?c2 ?c3 ?c4 ?c5 ?_)
              case c1 =>
                intro j u hj
                match j, hj with
                | 0, hj => simp at hj; subst hj; simp [Addr.add]
              case c2 => intro u hu; simp at hu; subst hu; rfl
              case c3 => unfold maxLen; omega
              case c4 => omega
              case c5 => simp; omega
              intro vl' w9 hown9 hgrow9 hblk9 hkeep9
              have m2 := (Mv.of_below (below_alloc wr (.cells #[.slice a7 (m + 64) c7] 42)) (fun j => (Value.slice (some ⟨gq, 0, none⟩) nn cq).ownBlock = some j)).grown hgrow9 (fun j _ e => e)
              obtain ⟨n1, n2, n3, n4⟩ := NXT.out wr w9 _ vl' hm2.out hrd.out ho.out hbl.out m2 hown9 (fun j e => by
                rcases hblk9 with h | h
                · exact .inr (h ▸ e)
                · rw [e] at h
                  injection h with h
                  exact .inl (by omega))
              have N1 := hide n1
              have N2 := hide n2
              have N3 := hide n3
              have N4 := hide n4
              clear hown9 hgrow9 hblk9 hkeep9 o1 m2 n1 n2 n3 n4
              go_wp2_with fail
              exact ⟨⟨p + 1, _, by go_num, by omega, N4.out, N1.out, N2.out, N3.out⟩, by simp [intOf]; omega⟩
        · obtain rfl : p = i := by omega
          obtain ⟨nn, hnn⟩ : ∃ nn, nn = xs.length + ys.length := ⟨_, rfl⟩
          have ROW := hg.out.row
          rw [← hnn] at ROW
          obtain ⟨ah, ch, rfl⟩ := own_len ROW
          have hcq := own_cap ROW
          have hn2 : nn = p + p := by have := HN.out; have := hyl.out; omega
          have MV := hide hmv2.out
          have FW : Hid (∀ w', Below wr.heap.size wr w' → ∀ r, r < nn → ∃ gq u z, ah = some ⟨gq, 0, none⟩ ∧ w'.cell? ⟨gq, r, none⟩ = some u ∧ RdN w' u z (r % p)) := fun w' hb r hr => by
            obtain ⟨gq, cq, e, hc⟩ := own_some ROW (by omega)
            injection e with e1 e2 e3
            have cc := fun (a : Addr) (x : Value) (h : wr.cell? a = some x) => (hb.cell (World.block_lt_of_cell? wr _ h)).trans h
            have hx1 := HN.out
            have hy1 := hyl.out
            have hl1 := LE.out
            by_cases hrp : r < p
            · have h1 : r < xs.length := by omega
              have h2 : r < ls.length := by omega
              refine ⟨gq, xs[r], ls[r].length, e1, cc _ _ ((hc r (by omega)).trans (by rw [List.getElem?_append_left h1]; exact List.getElem?_eq_getElem h1)), ?_⟩
              rw [Nat.mod_eq_of_lt hrp]
              exact (hg.out.old r h1 h2).later hb
            · have h1 : r - xs.length < ys.length := by omega
              have h2 : r - xs.length < ls.length := by omega
              refine ⟨gq, ys[r - xs.length], ls[r - xs.length].length + 64, e1, cc _ _ ((hc r (by omega)).trans (by rw [List.getElem?_append_right (by omega)]; exact List.getElem?_eq_getElem h1)), ?_⟩
              have h3 : r % p = r - xs.length := by rw [Nat.mod_eq_sub_mod (by omega), Nat.mod_eq_of_lt (by omega)]; omega
              rw [h3]
              exact (hg.out.new _ h1 h2).later hb
          clear ROW hnn hg hmv2 hbv GR0 MV0 hyl
          go_wp2_with fail
          go_loopw [9] (fun v9 wx => ∃ r : Nat, v9 = .int .i64 (r : Int) ∧ r ≤ nn ∧ Hid (Below wr.heap.size wr wx)) (fun v9 _ => nn - (intOf v9).toNat)
          case atStart => exact ⟨0, rfl, by omega, Below.refl _ _⟩
          case round =>
            obtain ⟨r, rfl, hr2, hb⟩ := hrel
            by_cases hlt3 : r < nn
            · obtain ⟨gq, u, z, rfl, cu, ru⟩ := FW.out wr hb.out r hlt3
              have RU := hide ru
              have CU : Hid (∀ w', Below wr.heap.size wr w' → w'.cell? ⟨gq, r, none⟩ = some u) := fun w' h => (h.cell (World.block_lt_of_cell? wr _ cu)).trans cu
              obtain ⟨au, cc, rfl, hn1, hn3, -⟩ := RU.out
              clear ru cu
              have i1 : (r : Int) < (nn : Int) := by omega
              have hp0 : ¬ (p : Int) = 0 := by omega
              have hmod : Int.tmod (r : Int) (p : Int) = ((r % p : Nat) : Int) := rfl
              go_wp2_with fail
              go_loopw [10] (fun v10 wy => ∃ k : Nat, v10 = .int .i64 (k : Int) ∧ k ≤ z ∧ Hid (Below wr.heap.size wr wy)) (fun v10 _ => z - (intOf v10).toNat)
              case atStart => exact ⟨0, rfl, by omega, Below.refl _ _⟩
              case round =>
                obtain ⟨k, rfl, hk, hb2⟩ := hrel
                have cu := CU.out wr hb2.out
                by_cases hk2 : k < z
                · obtain ⟨g, c2, e, d0⟩ := (RU.out.later hb2.out).at hk2
                  injection e with e1 e2 e3
                  subst e1 e3
                  clear e2
                  unfold mkN at d0
                  have k1 : (k : Int) < (z : Int) := by omega
                  have hq9 : (r % p : Nat) ≤ 2000 := by have := Nat.mod_le r p; omega
                  go_upto_region 24 with fail
                  go_quiet (fail)
                  have B3 := hide (below_on hb2.out (below_drawn wr nq))
                  go_wp2_with fail
                  exact ⟨⟨k + 1, by go_num, by omega, B3.out⟩, by simp [intOf]; omega⟩
                · obtain rfl : k = z := by omega
                  have B3 := hide (below_on hb.out hb2.out)
                  go_wp2_with fail
                  exact ⟨⟨r + 1, by go_num, by omega, B3.out⟩, by simp [intOf]; omega⟩
            · obtain rfl : r = nn := by omega
              have FIN := hide (MV.out.later hb.out)
              go_wp2_with fail
              go_ret
              exact ⟨rfl, FIN.out⟩
end Go.Proofs.YtpolajoephjdhaaGreatDoor
