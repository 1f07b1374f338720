import Derived.Test.YtpolajoephjdhaaGreatDoorLmA
import Derived.Test.YtpolajoephjdhaaGreatDoorDeM
/-
  The document's words.
-/
namespace Go.Proofs.YtpolajoephjdhaaGreatDoor
open Go.RowKit
set_option maxRecDepth 100000
def strC (l : List (List UInt8)) : List Value := l.map fun x => Value.string (bs x)
theorem strC_snoc (l : List (List UInt8)) (x : List UInt8) : strC (l ++ [x]) = strC l ++ [.string (bs x)] := by simp [strC]
theorem infoT : (Tryz.prog.info? 9).map (fun i => (i.zero, i.size, i.bytes)) = some (some (.string ByteArray.empty), 1, 16) := by kernel_rfl
/-- Where words stands: the words so far, the place where one begins, the place that is looked at. -/
def WdAt (L : List UInt8) (f i : Nat) (dn : List (List UInt8)) : Prop := f ≤ i ∧ i ≤ L.length ∧ dn ++ wordsF (L.drop f) = wordsF L ∧ 32 ∉ (L.take i).drop f
theorem get_at (s : ByteArray) (i : Nat) (h : i < s.size) : s.data.toList[i]? = some s[i] := seen_at s i h
theorem wd_start (L : List UInt8) : WdAt L 0 0 [] := ⟨Nat.le_refl _, Nat.zero_le _, by simp, by simp⟩
theorem take_snoc {L : List UInt8} {i f : Nat} {c : UInt8} (hf : f ≤ i) (hc : L[i]? = some c) : (L.take (i + 1)).drop f = (L.take i).drop f ++ [c] := by
  have hl := (List.getElem?_eq_some_iff.1 hc).1
  rw [List.take_add_one, hc, List.drop_append_of_le_length (by rw [List.length_take]; omega)]
  rfl
theorem wd_go {L : List UInt8} {f i : Nat} {dn : List (List UInt8)} {c : UInt8} (h : WdAt L f i dn) (hc : L[i]? = some c) (hn : c ≠ 32) : WdAt L f (i + 1) dn := by
  obtain ⟨h1, h2, h3, h4⟩ := h
  have hl := (List.getElem?_eq_some_iff.1 hc).1
  refine ⟨by omega, by omega, h3, ?_⟩
  rw [take_snoc h1 hc, List.mem_append, List.mem_singleton]
  rintro (h | h)
  · exact h4 h
  · exact hn h.symm
theorem drop_split {L : List UInt8} {f i : Nat} (hf : f ≤ i) (hi : i ≤ L.length) : L.drop f = (L.take i).drop f ++ L.drop i := by
  conv => lhs; rw [← List.take_append_drop i L]
  rw [List.drop_append_of_le_length (by rw [List.length_take]; omega)]
theorem wd_cut {L : List UInt8} {f i : Nat} {dn : List (List UInt8)} (h : WdAt L f i dn) (hc : L[i]? = some 32) : WdAt L (i + 1) (i + 1) (dn ++ [(L.take i).drop f]) := by
  obtain ⟨h1, h2, h3, h4⟩ := h
  have hl := (List.getElem?_eq_some_iff.1 hc).1
  refine ⟨Nat.le_refl _, by omega, ?_, by rw [List.drop_eq_nil_of_le (by rw [List.length_take]; omega)]; simp⟩
  have e : L.drop f = (L.take i).drop f ++ 32 :: L.drop (i + 1) := by
    rw [drop_split h1 h2, List.drop_eq_getElem_cons hl, (List.getElem?_eq_some_iff.1 hc).2]
  rw [← h3, e, words_cons h4, List.append_assoc]
  rfl
theorem wd_end {L : List UInt8} {f i : Nat} {dn : List (List UInt8)} (h : WdAt L f i dn) (hi : i = L.length) : dn ++ [(L.take i).drop f] = wordsF L := by
  obtain ⟨h1, h2, h3, h4⟩ := h
  subst hi
  rw [List.take_length] at h4 ⊢
  rw [← h3, words_one h4]
set_option maxHeartbeats 2000000 in
theorem words_any (s : ByteArray) (hs : s.size ≤ 1048576) (W : World) : Calls Tryz.prog 84 #[.string s] W fun e w' => ∃ v, e = .returned v ∧ w'.ownsRow W.heap.size 9 1 v (wordsF s.data.toList).length (strC (wordsF s.data.toList)) ∧ Below W.heap.size W w' := by
  obtain ⟨N, hN⟩ : ∃ N, N = s.size := ⟨_, rfl⟩
  have LN : Hid (s.data.toList.length = N) := by unfold Hid; rw [Array.length_toList, hN]; rfl
  obtain ⟨F, hF⟩ : ∃ F, F = wordsF s.data.toList := ⟨_, rfl⟩
  rw [← hF]
  have HF := hide hF
  clear hF
  go_enter Tryz.func84, Tryz.ntmps84
  go_wp2_with fail
  go_loopw [5, 4, 3] (fun va vf vl wr => ∃ (i f : Nat) (dn : List (List UInt8)), va = .int .i64 (i : Int) ∧ vf = .int .i64 (f : Int) ∧ i ≤ N + 1 ∧ f ≤ i ∧ dn.length ≤ i ∧ Hid ((i ≤ N ∧ WdAt s.data.toList f i dn) ∨ (i = N + 1 ∧ dn = F)) ∧ Hid (wr.ownsRow W.heap.size 9 1 vl dn.length (strC dn)) ∧ Hid (Below W.heap.size W wr)) (fun va _ _ _ => N + 1 - (intOf va).toNat)
  case atStart => exact ⟨0, 0, [], rfl, rfl, by omega, by omega, by simp, .inl ⟨by omega, wd_start _⟩, ⟨rfl, .inl ⟨rfl, rfl⟩⟩, Below.refl _ _⟩
  case round =>
    obtain ⟨i, f, dn, rfl, rfl, hi, hf, hdn, hst, hown, hbl⟩ := hrel
    by_cases hlt : i ≤ N
    · rcases hst.out with ⟨-, hw⟩ | ⟨h, -⟩
      rotate_left
      · omega
      have HW := hide hw
      clear hw hst
      by_cases hend : i = N
      · have FN : Hid (dn ++ [(s.data.toList.take i).drop f] = F) := (wd_end HW.out (hend.trans LN.out.symm)).trans HF.out.symm
        have hb1 : ((i : Int) == (s.size : Int)) = true := by rw [← hN, hend]; simp
        have HSI : Hid (i = s.size) := hend.trans hN
        have NX : Hid ((i + 1 ≤ N ∧ WdAt s.data.toList (i + 1) (i + 1) (dn ++ [(s.data.toList.take i).drop f])) ∨ (i + 1 = N + 1 ∧ dn ++ [(s.data.toList.take i).drop f] = F)) := .inr ⟨by omega, FN.out⟩
        obtain ⟨x, hx⟩ : ∃ x, x = s.extract f s.size := ⟨_, rfl⟩
        have EQ : Hid (strC dn ++ [.string x] = strC (dn ++ [(s.data.toList.take i).drop f])) := by unfold Hid; rw [hx, ← HSI.out, ext_list, strC_snoc]
        obtain ⟨ic, hi0, hz0, hz1, hz2⟩ := info_parts infoT
        have hsz := hbl.out.size
        have O1 := hown.out
        go_upto_region 7 with fail
        go_wp2_with (at_builtin; refine wpList_append_own _ rfl _ _ 139 rfl W.heap.size 9 ic (.string ByteArray.empty) 1 16 Tryz.underlying139 hi0 hz0 hz1 hz2 rfl (by decide) _ _ _ rfl (O1.alloc _) ⟨wr.heap.size, 0, none⟩ 1 1 [.string (s.extract f s.size)] rfl rfl ?c1 ?c2 ?c3 ?c4 ?c5 ?_)
        case c1 =>
          intro j u hj
          match j, hj with
          | 0, hj => simp at hj; subst hj; simp [Addr.add]
        case c2 => intro u hu; simp at hu; subst hu; rfl
        case c3 => unfold maxLen; omega
        case c4 => omega
        case c5 => simp; omega
        intro v3 w3 ho3 hg3 _
        rw [← hx, EQ.out] at ho3
        have O3 : Hid (w3.ownsRow W.heap.size 9 1 v3 (dn ++ [(s.data.toList.take i).drop f]).length (strC (dn ++ [(s.data.toList.take i).drop f]))) := by unfold Hid; rw [List.length_append]; exact ho3
        have B3 : Hid (Below W.heap.size W w3) := (below_on hbl.out (below_alloc wr _)).grown hg3 (by simp; omega) (fun g e => (O1.lt g e).1)
        clear ho3 hg3 O1 hx
        go_wp2_with fail
        exact ⟨⟨i + 1, i + 1, _, by go_num, by go_num, by omega, by omega, by simp; omega, NX.out, O3.out, B3.out⟩, by simp [intOf]; omega⟩
      · have hi2 : i < s.size := by omega
        have hc := get_at s i hi2
        have hb1 : ((i : Int) == (s.size : Int)) = false := by rw [← hN, beq_eq_false_iff_ne]; omega
        by_cases h32 : s[i] = 32
        · have WN := wd_cut HW.out (by rw [hc, h32])
          have NX : Hid ((i + 1 ≤ N ∧ WdAt s.data.toList (i + 1) (i + 1) (dn ++ [(s.data.toList.take i).drop f])) ∨ (i + 1 = N + 1 ∧ dn ++ [(s.data.toList.take i).drop f] = F)) := .inl ⟨by omega, WN⟩
          have h32' : ((s[i].toNat : Int) == 32) = true := by rw [h32]; rfl
          clear WN hc
          obtain ⟨x, hx⟩ : ∃ x, x = s.extract f i := ⟨_, rfl⟩
          have EQ : Hid (strC dn ++ [.string x] = strC (dn ++ [(s.data.toList.take i).drop f])) := by unfold Hid; rw [hx, ext_list, strC_snoc]
          obtain ⟨ic, hi0, hz0, hz1, hz2⟩ := info_parts infoT
          have hsz := hbl.out.size
          have O1 := hown.out
          go_upto_region 7 with fail
          go_wp2_with (at_builtin; refine wpList_append_own _ rfl _ _ 139 rfl W.heap.size 9 ic (.string ByteArray.empty) 1 16 Tryz.underlying139 hi0 hz0 hz1 hz2 rfl (by decide) _ _ _ rfl (O1.alloc _) ⟨wr.heap.size, 0, none⟩ 1 1 [.string (s.extract f i)] rfl rfl ?c1 ?c2 ?c3 ?c4 ?c5 ?_)
          case c1 =>
            intro j u hj
            match j, hj with
            | 0, hj => simp at hj; subst hj; simp [Addr.add]
          case c2 => intro u hu; simp at hu; subst hu; rfl
          case c3 => unfold maxLen; omega
          case c4 => omega
          case c5 => simp; omega
          intro v3 w3 ho3 hg3 _
          rw [← hx, EQ.out] at ho3
          have O3 : Hid (w3.ownsRow W.heap.size 9 1 v3 (dn ++ [(s.data.toList.take i).drop f]).length (strC (dn ++ [(s.data.toList.take i).drop f]))) := by unfold Hid; rw [List.length_append]; exact ho3
          have B3 : Hid (Below W.heap.size W w3) := (below_on hbl.out (below_alloc wr _)).grown hg3 (by simp; omega) (fun g e => (O1.lt g e).1)
          clear ho3 hg3 O1 hx
          go_wp2_with fail
          exact ⟨⟨i + 1, i + 1, _, by go_num, by go_num, by omega, by omega, by simp; omega, NX.out, O3.out, B3.out⟩, by simp [intOf]; omega⟩
        · have WN := wd_go HW.out hc h32
          have NX : Hid ((i + 1 ≤ N ∧ WdAt s.data.toList f (i + 1) dn) ∨ (i + 1 = N + 1 ∧ dn = F)) := .inl ⟨by omega, WN⟩
          have h32' : ((s[i].toNat : Int) == 32) = false := by
            rw [beq_eq_false_iff_ne]
            intro e
            exact h32 (UInt8.toNat_inj.1 (by show s[i].toNat = 32; omega))
          clear WN hc
          go_wp2_with fail
          exact ⟨⟨i + 1, f, dn, by go_num, rfl, by omega, by omega, by omega, NX.out, hown.out, hbl.out⟩, by simp [intOf]; omega⟩
    · rcases hst.out with ⟨h, -⟩ | ⟨-, rfl⟩
      · omega
      · go_wp2_with fail
        go_ret
        exact ⟨_, rfl, hown.out, hbl.out⟩
end Go.Proofs.YtpolajoephjdhaaGreatDoor

/-
  The document's number.
-/
namespace Go.Proofs.YtpolajoephjdhaaGreatDoor
open Go.RowKit
set_option maxRecDepth 100000
/-- Where number stands. -/
def NmAt (L : List UInt8) (i : Nat) (n : Int) : Prop := I6 n ∧ ((negL L = true ∧ i = 0 ∧ n = 0) ∨ ((negL L = true → 1 ≤ i) ∧ numD L = dnF (negL L) (L.drop i) n))
theorem nm_start (L : List UInt8) : NmAt L 0 0 := by
  refine ⟨⟨by omega, by omega⟩, ?_⟩
  cases h : negL L with
  | true => exact .inl ⟨rfl, rfl, rfl⟩
  | false =>
    refine .inr ⟨(fun e => by cases e), ?_⟩
    unfold numD
    rw [h]
    rfl
theorem nm_minus {L : List UInt8} {n : Int} (h : NmAt L 0 n) (hn : negL L = true) : NmAt L 1 n := by
  obtain ⟨h1, ⟨-, -, rfl⟩ | ⟨h2, -⟩⟩ := h
  · refine ⟨h1, .inr ⟨fun _ => Nat.le_refl _, ?_⟩⟩
    unfold numD
    rw [hn, if_pos rfl, List.drop_one]
  · have := h2 hn
    omega
theorem nm_cons {L : List UInt8} {i : Nat} {n : Int} {c : UInt8} (h : NmAt L i n) (hc : L[i]? = some c) (hi : negL L = true → 1 ≤ i) : numD L = dnF (negL L) (c :: L.drop (i + 1)) n := by
  obtain ⟨h1, ⟨k1, k2, -⟩ | ⟨-, h3⟩⟩ := h
  · have := hi k1
    omega
  · have hl := (List.getElem?_eq_some_iff.1 hc).1
    rw [h3, List.drop_eq_getElem_cons hl, (List.getElem?_eq_some_iff.1 hc).2]
theorem nm_bad {L : List UInt8} {i : Nat} {n : Int} {c : UInt8} (h : NmAt L i n) (hc : L[i]? = some c) (hi : negL L = true → 1 ≤ i) (hd : ¬ (48 ≤ c.toNat ∧ c.toNat ≤ 57)) : numOk L = false := by
  have := nm_cons h hc hi
  rw [dnF, if_neg hd] at this
  unfold numOk
  rw [this]
theorem nm_go {L : List UInt8} {i : Nat} {n : Int} {c : UInt8} (h : NmAt L i n) (hc : L[i]? = some c) (hi : negL L = true → 1 ≤ i) (hd : 48 ≤ c.toNat ∧ c.toNat ≤ 57) : NmAt L (i + 1) (if negL L then IntKind.i64.wrap (IntKind.i64.wrap (10 * n) - ((c.toNat - 48 : Nat) : Int)) else IntKind.i64.wrap (IntKind.i64.wrap (10 * n) + ((c.toNat - 48 : Nat) : Int))) := by
  have := nm_cons h hc hi
  rw [dnF, if_pos hd] at this
  refine ⟨?_, .inr ⟨fun _ => by omega, this⟩⟩
  split <;> exact wrap_six _
theorem nm_end {L : List UInt8} {i : Nat} {n : Int} (h : NmAt L i n) (hi : i = L.length) : numOk L = decide (Lib.itoa n = L) ∧ numVal L = n := by
  obtain ⟨h1, ⟨k1, k2, -⟩ | ⟨-, h3⟩⟩ := h
  · have : L = [] := List.length_eq_zero_iff.1 (by omega)
    subst this
    cases k1
  · rw [hi, List.drop_length, dnF] at h3
    unfold numOk numVal
    rw [h3]
    exact ⟨rfl, rfl⟩
theorem neg_at {s : ByteArray} (h : 0 < s.size) : negL s.data.toList = (s[0] == 45) := by
  have := seen_at s 0 h
  unfold negL
  rw [List.head?_eq_getElem?, this, Option.some_beq_some]
theorem wrap64_i64 (n : Int) : wrap64 n = IntKind.i64.wrap n := by
  rw [wrap_eq]
  unfold wrap64
  first | rfl | (split <;> omega)
set_option maxHeartbeats 2000000 in
theorem dnum_any (s : ByteArray) (hs : s.size ≤ 1048576) (W : World) : Calls Tryz.prog 85 #[.string s] W fun e w' => ∃ x, e = .returned (.tuple #[.int .i64 x, .bool (numOk s.data.toList)]) ∧ (numOk s.data.toList = true → x = numVal s.data.toList) ∧ w' = W := by
  obtain ⟨N, hN⟩ : ∃ N, N = s.size := ⟨_, rfl⟩
  have LN : Hid (s.data.toList.length = N) := by unfold Hid; rw [Array.length_toList, hN]; rfl
  go_enter Tryz.func85, Tryz.ntmps85
  go_wp2_with fail
  go_loop [5, 4] (fun va vn => ∃ (i : Nat) (n : Int), va = .int .i64 (i : Int) ∧ vn = .int .i64 n ∧ i ≤ N ∧ Hid (NmAt s.data.toList i n)) (fun va _ => N - (intOf va).toNat)
  case atStart => exact ⟨0, 0, rfl, rfl, by omega, nm_start _⟩
  case round =>
    obtain ⟨i, n, rfl, rfl, hi, hst⟩ := hrel
    by_cases hlt : i < s.size
    · have hc := hide (seen_at s i hlt)
      have h0 : 0 < s.size := by omega
      have NG := hide (neg_at h0)
      obtain ⟨ng, hng⟩ : ∃ b, b = negL s.data.toList := ⟨_, rfl⟩
      have NE := hide hng
      have n45 : ((s[0].toNat : Int) == 45) = ng := by
        rw [hng, NG.out, Bool.eq_iff_iff, beq_iff_eq, beq_iff_eq]
        constructor
        · intro e
          exact UInt8.toNat_inj.1 (by show s[0].toNat = 45; omega)
        · intro e
          rw [e]
          rfl
      clear hng
      by_cases hm : i = 0 ∧ ng = true
      · obtain ⟨rfl, rfl⟩ := hm
        have NX := hide (nm_minus hst.out NE.out.symm)
        go_wp2_with fail
        exact ⟨⟨1, n, rfl, rfl, by omega, NX.out⟩, by simp [intOf]; omega⟩
      · have HM : Hid (negL s.data.toList = true → 1 ≤ i) := fun e => by
          have : ng = true := NE.out.trans e
          have : ¬ i = 0 := fun h => hm ⟨h, this⟩
          omega
        by_cases hi0 : i = 0
        · subst hi0
          obtain rfl : ng = false := by cases ng with | false => rfl | true => exact absurd ⟨rfl, rfl⟩ hm
          clear hm
          by_cases hd : 48 ≤ s[0].toNat ∧ s[0].toNat ≤ 57
          · have NX := hide (nm_go hst.out hc.out HM.out hd)
            have h48 : ¬ (s[0].toNat : Int) < 48 := by omega
            have h57 : ¬ (57 : Int) < (s[0].toNat : Int) := by omega
            rw [← NE.out] at NX
            have ED : Hid (((s[0].toNat - 48 : Nat) : Int) = (s[0].toNat : Int) - 48) := by unfold Hid; omega
            rw [ED.out] at NX
            rw [if_neg (by simp)] at NX
            go_wp2_with fail
            exact ⟨⟨1, _, rfl, rfl, by omega, by unfold Hid; rw [wrap64_i64, wrap64_i64]; exact NX.out⟩, by simp [intOf]; omega⟩
          · have NO := hide (nm_bad hst.out hc.out HM.out hd)
            rcases (show s[0].toNat < 48 ∨ (48 ≤ s[0].toNat ∧ 57 < s[0].toNat) by omega) with h48 | ⟨h48, h57⟩
            · have h48' : (s[0].toNat : Int) < 48 := by omega
              clear hd
              go_wp2_with fail
              go_ret2
              rw [NO.out]
              exact ⟨0, rfl, (fun e => by cases e), rfl⟩
            · have h48' : ¬ (s[0].toNat : Int) < 48 := by omega
              have h57' : (57 : Int) < (s[0].toNat : Int) := by omega
              clear hd
              go_wp2_with fail
              go_ret2
              rw [NO.out]
              exact ⟨0, rfl, (fun e => by cases e), rfl⟩
        · have hi0' : ((i : Int) == 0) = false := by rw [beq_eq_false_iff_ne]; omega
          clear hm
          by_cases hd : 48 ≤ s[i].toNat ∧ s[i].toNat ≤ 57
          · have NX := hide (nm_go hst.out hc.out HM.out hd)
            have h48 : ¬ (s[i].toNat : Int) < 48 := by omega
            have h57 : ¬ (57 : Int) < (s[i].toNat : Int) := by omega
            rw [← NE.out] at NX
            have ED : Hid (((s[i].toNat - 48 : Nat) : Int) = (s[i].toNat : Int) - 48) := by unfold Hid; omega
            rw [ED.out] at NX
            cases ng with
            | true =>
              rw [if_pos rfl] at NX
              go_wp2_with fail
              exact ⟨⟨i + 1, _, by go_num, rfl, by omega, by unfold Hid; rw [wrap64_i64, wrap64_i64]; exact NX.out⟩, by simp [intOf]; omega⟩
            | false =>
              rw [if_neg (by simp)] at NX
              go_wp2_with fail
              exact ⟨⟨i + 1, _, by go_num, rfl, by omega, by unfold Hid; rw [wrap64_i64, wrap64_i64]; exact NX.out⟩, by simp [intOf]; omega⟩
          · have NO := hide (nm_bad hst.out hc.out HM.out hd)
            rcases (show s[i].toNat < 48 ∨ (48 ≤ s[i].toNat ∧ 57 < s[i].toNat) by omega) with h48 | ⟨h48, h57⟩
            · have h48' : (s[i].toNat : Int) < 48 := by omega
              clear hd
              go_wp2_with fail
              go_ret2
              rw [NO.out]
              exact ⟨0, rfl, (fun e => by cases e), rfl⟩
            · have h48' : ¬ (s[i].toNat : Int) < 48 := by omega
              have h57' : (57 : Int) < (s[i].toNat : Int) := by omega
              clear hd
              go_wp2_with fail
              go_ret2
              rw [NO.out]
              exact ⟨0, rfl, (fun e => by cases e), rfl⟩
    · have E := hide (nm_end hst.out (by rw [LN.out]; omega))
      have J := hide (decimal_any n hst.out.1)
      go_wp2_with fail
      refine (J.out _).mono ?_
      rintro e w' ⟨rfl, rfl⟩
      go_wp2_with fail
      go_ret2
      refine ⟨n, ?_, fun _ => E.out.2.symm, rfl⟩
      rw [E.out.1]
      show Ending.returned (.tuple #[.int .i64 n, .bool ((itB n).toList == s.toList)]) = _
      rw [beq_list]
      have : decide (itB n = s) = decide (Lib.itoa n = s.data.toList) := by
        rw [decide_eq_decide]
        constructor
        · intro e
          rw [← e]
          rfl
        · intro e
          exact bs_ext e
      rw [this]
end Go.Proofs.YtpolajoephjdhaaGreatDoor

/-
  The document's instr.
-/
namespace Go.Proofs.YtpolajoephjdhaaGreatDoor
open Go.RowKit
set_option maxRecDepth 100000
theorem set2 {w : World} {B : Nat} {a b : Value} (x y : Value) (h : w.heap[B]? = some (.cells #[a, b] 56 (0, 0))) : ((w.setCell ⟨B, 0, none⟩ x).setCell ⟨B, 1, none⟩ y).heap[B]? = some (.cells #[x, y] 56 (0, 0)) := heap_setCell_same _ B 1 _ 56 _ (heap_setCell_same w B 0 _ 56 _ h)
theorem words_at {w : World} {B : Nat} {v : Value} {ws : List (List UInt8)} (h : w.ownsRow B 9 1 v ws.length (strC ws)) (h0 : 0 < ws.length) : ∃ g c, v = .slice (some ⟨g, 0, none⟩) ws.length c ∧ ws.length ≤ 9223372036854775807 ∧ c ≤ 9223372036854775807 ∧ ws.length ≤ c ∧ ∀ w' k (hk : k < ws.length), Below w.heap.size w w' → w'.cell? ⟨g, k, none⟩ = some (.string (bs ws[k])) := by
  have h' := h
  obtain ⟨g, c, e, hc⟩ := own_some h h0
  obtain ⟨-, ⟨-, e2⟩ | ⟨g', cap, cur, e3, hB, hg, h1, h2, -⟩⟩ := h'
  · omega
  · rw [e] at e3
    injection e3 with e4 e5 e6
    subst e6
    refine ⟨g, c, e, by unfold maxLen at h2; omega, by unfold maxLen at h2; omega, h1, fun w' k hk hb => ?_⟩
    have hx := hc k (by omega)
    have e7 : (strC ws)[k]? = some (.string (bs ws[k])) := by
      unfold strC
      rw [List.getElem?_map, List.getElem?_eq_getElem hk]
      rfl
    rw [e7] at hx
    exact (hb.cell (World.block_lt_of_cell? w _ hx)).trans hx
theorem i6z : I6 0 := ⟨by omega, by omega⟩
theorem wordsN_len : ∀ (n : Nat) (L : List UInt8), ∀ x ∈ wordsN n L, x.length ≤ L.length
  | 0, L, x, h => by
    simp only [wordsN, List.mem_singleton] at h
    subst h
    exact Nat.le_refl _
  | n + 1, L, x, h => by
    rw [wordsN] at h
    split at h
    · rcases List.mem_cons.1 h with rfl | h
      · exact bef_len 32 L
      · exact Nat.le_trans (wordsN_len n _ x h) (aft_len 32 L)
    · simp only [List.mem_singleton] at h
      subst h
      exact Nat.le_refl _
theorem words_len {L x : List UInt8} (h : x ∈ wordsF L) : x.length ≤ L.length := wordsN_len _ L x h
def oneOk : List (List UInt8) → Bool
  | [a] => numOk a
  | _ => false
theorem instrD_eq {L w : List UInt8} {ws : List (List UInt8)} (h : wordsF L = w :: ws) : insRd L = (decide (numOf (bs w) ≠ 0) && ((!numb (opk (numOf (bs w))) && decide (ws = [])) || (numb (opk (numOf (bs w))) && oneOk ws))) := by
  rw [← instr_is]
  unfold instrD
  rw [h]
  match ws with
  | [] => cases hb : numb (opk (numOf (bs w))) <;> simp [oneOk, hb]
  | [a] => cases hb : numb (opk (numOf (bs w))) <;> simp [oneOk, hb]
  | a :: b :: r => simp [oneOk]
set_option maxHeartbeats 4000000 in
theorem dinstr_any (s : ByteArray) (hs : s.size ≤ 1048576) (W : World) : Calls Tryz.prog 54 #[.string s] W fun e w' => ∃ i : Ins, e = .returned (.tuple #[insV i, .bool (insRd s.data.toList)]) ∧ I6 i.op ∧ I6 i.a ∧ (insRd s.data.toList = true → i = insOf s.data.toList) ∧ Below W.heap.size W w' := by
  obtain ⟨w0, hw0⟩ : ∃ X, X = W.alloc (.cells #[.int .i64 0, .int .i64 0] 56) := ⟨_, rfl⟩
  have B0 : Below W.heap.size W w0 := hw0 ▸ below_alloc W _
  obtain ⟨B, hB⟩ : ∃ B, B = W.heap.size := ⟨_, rfl⟩
  have n0 : w0.heap[B]? = some (.cells #[.int .i64 0, .int .i64 0] 56 (0, 0)) := by rw [hw0, hB]; exact heap_alloc_new W _
  have hBs : W.heap.size ≤ B := by omega
  have Y0 := hide B0
  have AT : Hid (∀ w', Below w0.heap.size w0 w' → w'.heap[B]? = some (.cells #[.int .i64 0, .int .i64 0] 56 (0, 0)) ∧ ∀ q, w'.frozen? ⟨B, q, none⟩ = false) := fun w' hb => ⟨(hb.block B (lt_of_block n0)).trans n0, fun q => frozen_of_row w' B q _ 56 ((hb.block B (lt_of_block n0)).trans n0)⟩
  obtain ⟨ws, hws⟩ : ∃ ws, ws = wordsF s.data.toList := ⟨_, rfl⟩
  have J := hide (words_any s hs w0)
  rw [← hws] at J
  have HS := hide hws
  obtain ⟨w, wt, rfl⟩ : ∃ w wt, ws = w :: wt := by
    cases ws with
    | nil => exact absurd hws.symm (wordsF_ne _)
    | cons w wt => exact ⟨w, wt, rfl⟩
  have ID := hide (instrD_eq hws.symm)
  have HSZ : Hid (s.data.size ≤ 1048576) := hs
  clear hws n0 B0 hs
  go_enter Tryz.func54, Tryz.ntmps54
  go_upto_region 1 with fail
  rw [← hw0, ← hB]
  clear hw0 hB
  go_wp2_with fail
  refine J.out.mono ?_
  rintro e w1 ⟨v, rfl, ow, b1⟩
  obtain ⟨g, c, rfl, hl1, hl2, hl3, hcell⟩ := words_at ow (by simp)
  have HC := hide hcell
  have X1 := hide b1
  have y0 : w1.cell? ⟨g, 0, none⟩ = some (.string (bs w)) := HC.out w1 0 (by simp) (Below.refl _ _)
  clear J ow hcell b1
  have J := hide (dnumber_any (bs w) w1)
  have J2 := hide (fun w' => dhasa_any (numOf (bs w) : Int) w')
  have HN := hide (numOf_lt (bs w))
  generalize hop : numOf (bs w) = op at *
  have HOP := hide hop
  clear hop
  obtain ⟨m, hm⟩ : ∃ m, m = (w :: wt).length := ⟨_, rfl⟩
  rw [← hm] at hl1 hl3 ⊢
  have hm0 : 0 < m := by rw [hm]; simp
  have HM := hide hm
  clear hm
  generalize numb (opk (op : Int)) = has at *
  go_wp2_with fail
  refine J.out.mono ?_
  rintro e w2 ⟨rfl, b2⟩
  have X2 := hide b2
  clear y0 J b2
  go_wp2_with fail
  refine (J2.out _).mono ?_
  rintro e w3 ⟨rfl, b3⟩
  have X3 := hide (below_on X2.out b3)
  obtain ⟨n3, z3⟩ := AT.out w3 (below_on X1.out X3.out)
  have N3 := hide n3
  have K3 := hide (below_on Y0.out (below_on X1.out X3.out))
  obtain ⟨r0, r1⟩ := row2 n3
  clear J2 b3 X2 n3
  by_cases h0 : op = 0
  · subst h0
    have NO : Hid (insRd s.data.toList = false) := by unfold Hid; rw [ID.out]; simp
    go_wp2_with fail
    have hq := (K3.out.setCell (p := ⟨B, 0, none⟩) hBs (.int .i64 0)).setCell (p := ⟨B, 1, none⟩) hBs (.int .i64 0)
    exact bodyPost_ret (res_ins rfl rfl rfl (set2 _ _ N3.out)) rfl ⟨⟨0, 0⟩, by rw [NO.out]; rfl, i6z, i6z, (fun e => by rw [NO.out] at e; cases e), hq⟩
  · have h0' : ((op : Int) == 0) = false := by rw [beq_eq_false_iff_ne]; omega
    have ho6 : Hid (I6 (op : Int)) := by have := HN.out; exact ⟨by omega, by omega⟩
    cases has with
    | false =>
      by_cases h1 : m = 1
      · have E1 : wt = [] := List.length_eq_zero_iff.1 (by have := HM.out; simp at this; omega)
        subst E1
        have YES : Hid (insRd s.data.toList = true) := by unfold Hid; rw [ID.out]; simp [h0]
        have VAL : Hid (insOf s.data.toList = ⟨(op : Int), 0⟩) := by unfold Hid; rw [ins_words1 HS.out.symm, HOP.out]
        subst h1
        obtain ⟨w4, hw4⟩ : ∃ X, X = w3.alloc (.cells #[.int .i64 (op : Int), .int .i64 0] 56) := ⟨_, rfl⟩
        have b4 : Below w3.heap.size w3 w4 := hw4 ▸ below_alloc w3 _
        obtain ⟨C, hC⟩ : ∃ C, C = w3.heap.size := ⟨_, rfl⟩
        have n4 : w4.heap[C]? = some (.cells #[.int .i64 (op : Int), .int .i64 0] 56 (0, 0)) := by rw [hw4, hC]; exact heap_alloc_new w3 _
        have N4 := hide ((b4.block B (lt_of_block N3.out)).trans N3.out)
        have K4 := hide (below_on K3.out b4)
        clear r0 r1 z3
        obtain ⟨c0, c1⟩ := row2 n4
        obtain ⟨r0, r1⟩ := row2 N4.out
        have z4 : ∀ q, w4.frozen? ⟨B, q, none⟩ = false := fun q => frozen_of_row w4 B q _ 56 N4.out
        clear b4 n4
        go_upto_region 7 with fail
        rw [← hw4, ← hC]
        clear hw4 hC
        go_wp2_with fail
        have hq := (K4.out.setCell (p := ⟨B, 0, none⟩) hBs (.int .i64 (op : Int))).setCell (p := ⟨B, 1, none⟩) hBs (.int .i64 0)
        exact bodyPost_ret (res_ins rfl rfl rfl (set2 _ _ N4.out)) rfl ⟨⟨(op : Int), 0⟩, by rw [YES.out]; rfl, ho6.out, i6z, fun _ => VAL.out.symm, hq⟩
      · have NO : Hid (insRd s.data.toList = false) := by
          unfold Hid
          rw [ID.out]
          have : wt ≠ [] := fun e => by subst e; exact h1 HM.out
          simp [this]
        have h1' : ((m : Int) != 1) = true := by simpa using (by omega : ¬ (m : Int) = 1)
        go_wp2_with fail
        have hq := (K3.out.setCell (p := ⟨B, 0, none⟩) hBs (.int .i64 0)).setCell (p := ⟨B, 1, none⟩) hBs (.int .i64 0)
        exact bodyPost_ret (res_ins rfl rfl rfl (set2 _ _ N3.out)) rfl ⟨⟨0, 0⟩, by rw [NO.out]; rfl, i6z, i6z, (fun e => by rw [NO.out] at e; cases e), hq⟩
    | true =>
      by_cases h2 : m = 2
      · obtain ⟨a, rfl⟩ : ∃ a, wt = [a] := List.length_eq_one_iff.1 (by have := HM.out; simp at this; omega)
        have ONE : Hid (insRd s.data.toList = numOk a) := by unfold Hid; rw [ID.out]; simp [h0, oneOk]
        have VAL : Hid (numOk a = true → insOf s.data.toList = ⟨(op : Int), numVal a⟩) := fun h => by rw [ins_words2 HS.out.symm h, HOP.out]
        subst h2
        obtain ⟨w4, hw4⟩ : ∃ X, X = w3.alloc (.cells #[.int .i64 (op : Int), .int .i64 0] 56) := ⟨_, rfl⟩
        have b4 : Below w3.heap.size w3 w4 := hw4 ▸ below_alloc w3 _
        obtain ⟨C, hC⟩ : ∃ C, C = w3.heap.size := ⟨_, rfl⟩
        have n4 : w4.heap[C]? = some (.cells #[.int .i64 (op : Int), .int .i64 0] 56 (0, 0)) := by rw [hw4, hC]; exact heap_alloc_new w3 _
        have N4 := hide ((b4.block B (lt_of_block N3.out)).trans N3.out)
        have K4 := hide (below_on K3.out b4)
        have NC := hide n4
        have y1 : w4.cell? ⟨g, 1, none⟩ = some (.string (bs a)) := HC.out w4 1 (by simp) (below_on X3.out b4)
        have hBC : B ≠ C := by
          have := lt_of_block N3.out
          omega
        have hCs : W.heap.size ≤ C := by have := lt_of_block N3.out; omega
        clear r0 r1 z3
        obtain ⟨c0, c1⟩ := row2 n4
        obtain ⟨r0, r1⟩ := row2 N4.out
        have z4 : ∀ q, w4.frozen? ⟨B, q, none⟩ = false := fun q => frozen_of_row w4 B q _ 56 N4.out
        have z5 : ∀ q, w4.frozen? ⟨C, q, none⟩ = false := fun q => frozen_of_row w4 C q _ 56 n4
        have J := hide (dnum_any (bs a) (by
          have h1 := words_len (L := s.data.toList) (x := a) (by rw [← HS.out]; simp)
          rw [bs_size]
          rw [Array.length_toList] at h1
          exact Nat.le_trans h1 HSZ.out) w4)
        rw [toList_bs] at J
        clear b4 n4
        go_upto_region 7 with fail
        rw [← hw4, ← hC]
        clear hw4 hC
        go_wp2_with fail
        refine J.out.mono ?_
        rintro e w5 ⟨x, rfl, hx, rfl⟩
        have HX := hide hx
        clear hx J y1
        cases hok : numOk a with
        | false =>
          rw [hok] at ONE
          go_wp2_with fail
          have hq := (K4.out.setCell (p := ⟨B, 0, none⟩) hBs (.int .i64 0)).setCell (p := ⟨B, 1, none⟩) hBs (.int .i64 0)
          exact bodyPost_ret (res_ins rfl rfl rfl (set2 _ _ N4.out)) rfl ⟨⟨0, 0⟩, by rw [ONE.out]; rfl, i6z, i6z, (fun e => by rw [ONE.out] at e; cases e), hq⟩
        | true =>
          rw [hok] at ONE
          obtain rfl : x = numVal a := HX.out hok
          have I6a := hide (numOk_inv hok).1
          have VAL2 := hide (VAL.out hok)
          go_wp2_with fail
          have n5 := ((Mv.refl w5 (fun j => j = C)).set (g := C) rfl 1 (.int .i64 (numVal a))).at N4.out hBC
          have hq := ((K4.out.setCell (p := ⟨C, 1, none⟩) hCs (.int .i64 (numVal a))).setCell (p := ⟨B, 0, none⟩) hBs (.int .i64 (op : Int))).setCell (p := ⟨B, 1, none⟩) hBs (.int .i64 (numVal a))
          exact bodyPost_ret (res_ins rfl rfl rfl (set2 _ _ n5)) rfl ⟨⟨(op : Int), numVal a⟩, by rw [ONE.out]; rfl, ho6.out, I6a.out, fun _ => VAL2.out.symm, hq⟩
      · have NO : Hid (insRd s.data.toList = false) := by
          unfold Hid
          rw [ID.out]
          have : oneOk wt = false := by
            match wt with
            | [] => rfl
            | [a] => exact absurd HM.out h2
            | a :: b :: r => rfl
          simp [this]
        have h2' : ((m : Int) != 2) = true := by simpa using (by omega : ¬ (m : Int) = 2)
        go_wp2_with fail
        have hq := (K3.out.setCell (p := ⟨B, 0, none⟩) hBs (.int .i64 0)).setCell (p := ⟨B, 1, none⟩) hBs (.int .i64 0)
        exact bodyPost_ret (res_ins rfl rfl rfl (set2 _ _ N3.out)) rfl ⟨⟨0, 0⟩, by rw [NO.out]; rfl, i6z, i6z, (fun e => by rw [NO.out] at e; cases e), hq⟩
end Go.Proofs.YtpolajoephjdhaaGreatDoor

/-
  The document's first.
-/
namespace Go.Proofs.YtpolajoephjdhaaGreatDoor
open Go.RowKit
set_option maxRecDepth 100000
theorem firstD_no {L : List UInt8} (h : (wordsF L).length ≠ 3) : headRd L = false := by
  rw [← first_is]
  unfold firstD
  split
  · rename_i hw
    rw [hw] at h
    exact absurd rfl h
  · rfl
theorem firstD_eq {L a b c : List UInt8} (h : wordsF L = [a, b, c]) : headRd L = (numOk b && numOk c && decide (numVal b ≤ 4 ∧ numVal c ≤ 32 ∧ 0 ≤ numVal b ∧ 0 ≤ numVal c) && lstOk (headOf L)) := by
  rw [← first_is]
  unfold firstD
  rw [h]
set_option maxHeartbeats 4000000 in
theorem dfirst_any (s : ByteArray) (hs : s.size ≤ 1048576) (W : World) : Calls Tryz.prog 53 #[.string s] W fun e w' => ∃ (nm : ByteArray) (pa lo : Int), e = .returned (.tuple #[.agg #[.string nm, .int .i64 pa, .int .i64 lo, .slice none 0 0], .bool (headRd s.data.toList)]) ∧ (headRd s.data.toList = true → headOf s.data.toList = ⟨nm, pa, lo, []⟩) ∧ Below W.heap.size W w' := by
  obtain ⟨w0, hw0⟩ : ∃ X, X = W.alloc (.cells #[.string ⟨#[]⟩, .int .i64 0, .int .i64 0, .slice none 0 0] 45) := ⟨_, rfl⟩
  have B0 : Below W.heap.size W w0 := hw0 ▸ below_alloc W _
  obtain ⟨B, hB⟩ : ∃ B, B = W.heap.size := ⟨_, rfl⟩
  have n0 : w0.heap[B]? = some (.cells #[.string ⟨#[]⟩, .int .i64 0, .int .i64 0, .slice none 0 0] 45 (0, 0)) := by rw [hw0, hB]; exact heap_alloc_new W _
  have hBs : W.heap.size ≤ B := by omega
  have Y0 := hide B0
  have AT : Hid (∀ w', Below w0.heap.size w0 w' → w'.heap[B]? = some (.cells #[.string ⟨#[]⟩, .int .i64 0, .int .i64 0, .slice none 0 0] 45 (0, 0)) ∧ ∀ q, w'.frozen? ⟨B, q, none⟩ = false) := fun w' hb => ⟨(hb.block B (lt_of_block n0)).trans n0, fun q => frozen_of_row w' B q _ 45 ((hb.block B (lt_of_block n0)).trans n0)⟩
  obtain ⟨ws, hws⟩ : ∃ ws, ws = wordsF s.data.toList := ⟨_, rfl⟩
  have J := hide (words_any s hs w0)
  rw [← hws] at J
  have HS := hide hws
  have hw1 : 0 < ws.length := by
    cases ws with
    | nil => exact absurd hws.symm (wordsF_ne _)
    | cons w wt => simp
  have HSZ : Hid (s.data.size ≤ 1048576) := hs
  clear hws n0 B0 hs
  go_enter Tryz.func53, Tryz.ntmps53
  go_upto_region 1 with fail
  rw [← hw0, ← hB]
  clear hw0 hB
  go_wp2_with fail
  refine J.out.mono ?_
  rintro e w3 ⟨v, rfl, ow, b3⟩
  obtain ⟨g, c, rfl, hl1, hl2, hl3, hcell⟩ := words_at ow hw1
  have HC := hide hcell
  have X3 := hide b3
  obtain ⟨n3, z3⟩ := AT.out w3 b3
  have N3 := hide n3
  have K3 := hide (below_on Y0.out X3.out)
  obtain ⟨r0, r1, r2, r3⟩ := row4 n3
  clear J ow hcell b3 n3
  by_cases h3 : ws.length = 3
  · match ws, h3 with
    | [a, b, cc], _ =>
    have ID := hide (firstD_eq HS.out.symm)
    have HW := hide (fun h1 h2 => (head_words HS.out.symm (b := b) (c := cc) h1 h2).1)
    simp only [List.length_cons, List.length_nil] at hl1 hl3 ⊢
    have y0 : w3.cell? ⟨g, 0, none⟩ = some (.string (bs a)) := HC.out w3 0 (by simp) (Below.refl _ _)
    have y1 : w3.cell? ⟨g, 1, none⟩ = some (.string (bs b)) := HC.out w3 1 (by simp) (Below.refl _ _)
    have y2 : w3.cell? ⟨g, 2, none⟩ = some (.string (bs cc)) := HC.out w3 2 (by simp) (Below.refl _ _)
    have LB : Hid (∀ x ∈ [a, b, cc], (bs x).size ≤ 1048576) := fun x hx => by
      have h1 := words_len (L := s.data.toList) (x := x) (by rw [← HS.out]; exact hx)
      rw [bs_size]
      rw [Array.length_toList] at h1
      exact Nat.le_trans h1 HSZ.out
    have J1 := hide (dnum_any (bs b) (LB.out b (by simp)) w3)
    have J2 := hide (dnum_any (bs cc) (LB.out cc (by simp)) w3)
    rw [toList_bs] at J1 J2
    go_wp2_with fail
    refine J1.out.mono ?_
    rintro e w' ⟨x, rfl, hx, rfl⟩
    have HX := hide hx
    clear hx J1
    go_wp2_with fail
    refine J2.out.mono ?_
    rintro e w' ⟨y, rfl, hy, rfl⟩
    have HY := hide hy
    clear hy J2
    cases ok1 : numOk b with
    | false =>
      have NO : Hid (headRd s.data.toList = false) := by unfold Hid; rw [ID.out, ok1]; simp
      go_wp2_with fail
      exact bodyPost_ret (res_rt rfl rfl rfl (w4s_row _ _ _ _ N3.out)) rfl ⟨⟨#[]⟩, 0, 0, by rw [NO.out]; rfl, (fun e => by rw [NO.out] at e; cases e), w4s_below _ _ _ _ K3.out hBs⟩
    | true =>
      cases ok2 : numOk cc with
      | false =>
        have NO : Hid (headRd s.data.toList = false) := by unfold Hid; rw [ID.out, ok2]; simp
        go_wp2_with fail
        exact bodyPost_ret (res_rt rfl rfl rfl (w4s_row _ _ _ _ N3.out)) rfl ⟨⟨#[]⟩, 0, 0, by rw [NO.out]; rfl, (fun e => by rw [NO.out] at e; cases e), w4s_below _ _ _ _ K3.out hBs⟩
      | true =>
        obtain rfl : x = numVal b := HX.out ok1
        obtain rfl : y = numVal cc := HY.out ok2
        have hv := hide (HW.out ok1 ok2)
        rw [ok1, ok2] at ID
        generalize numVal b = x at *
        generalize numVal cc = y at *
        rcases (show 4 < x ∨ (¬ 4 < x ∧ 32 < y) ∨ (¬ 4 < x ∧ ¬ 32 < y ∧ x < 0) ∨ (¬ 4 < x ∧ ¬ 32 < y ∧ ¬ x < 0 ∧ y < 0) ∨ (¬ 4 < x ∧ ¬ 32 < y ∧ ¬ x < 0 ∧ ¬ y < 0) by omega) with a1 | ⟨a1, a2⟩ | ⟨a1, a2, a3⟩ | ⟨a1, a2, a3, a4⟩ | ⟨a1, a2, a3, a4⟩
        · have NO : Hid (headRd s.data.toList = false) := by unfold Hid; rw [ID.out, decide_eq_false (by omega)]; simp
          go_wp2_with fail
          exact bodyPost_ret (res_rt rfl rfl rfl (w4s_row _ _ _ _ N3.out)) rfl ⟨⟨#[]⟩, 0, 0, by rw [NO.out]; rfl, (fun e => by rw [NO.out] at e; cases e), w4s_below _ _ _ _ K3.out hBs⟩
        · have NO : Hid (headRd s.data.toList = false) := by unfold Hid; rw [ID.out, decide_eq_false (by omega)]; simp
          go_wp2_with fail
          exact bodyPost_ret (res_rt rfl rfl rfl (w4s_row _ _ _ _ N3.out)) rfl ⟨⟨#[]⟩, 0, 0, by rw [NO.out]; rfl, (fun e => by rw [NO.out] at e; cases e), w4s_below _ _ _ _ K3.out hBs⟩
        · have NO : Hid (headRd s.data.toList = false) := by unfold Hid; rw [ID.out, decide_eq_false (by omega)]; simp
          go_wp2_with fail
          exact bodyPost_ret (res_rt rfl rfl rfl (w4s_row _ _ _ _ N3.out)) rfl ⟨⟨#[]⟩, 0, 0, by rw [NO.out]; rfl, (fun e => by rw [NO.out] at e; cases e), w4s_below _ _ _ _ K3.out hBs⟩
        · have NO : Hid (headRd s.data.toList = false) := by unfold Hid; rw [ID.out, decide_eq_false (by omega)]; simp
          go_wp2_with fail
          exact bodyPost_ret (res_rt rfl rfl rfl (w4s_row _ _ _ _ N3.out)) rfl ⟨⟨#[]⟩, 0, 0, by rw [NO.out]; rfl, (fun e => by rw [NO.out] at e; cases e), w4s_below _ _ _ _ K3.out hBs⟩
        · have YES : Hid (headRd s.data.toList = lstOk ⟨bs a, x, y, []⟩) := by unfold Hid; rw [ID.out, decide_eq_true (by omega), hv.out]; simp
          obtain ⟨w4, hw4⟩ : ∃ X, X = w'.alloc (.cells #[.string (bs a), .int .i64 x, .int .i64 y, .slice none 0 0] 45) := ⟨_, rfl⟩
          have b4 : Below w'.heap.size w' w4 := hw4 ▸ below_alloc w' _
          obtain ⟨C, hC⟩ : ∃ C, C = w'.heap.size := ⟨_, rfl⟩
          have n4 : w4.heap[C]? = some (.cells #[.string (bs a), .int .i64 x, .int .i64 y, .slice none 0 0] 45 (0, 0)) := by rw [hw4, hC]; exact heap_alloc_new w' _
          have N4 := hide ((b4.block B (lt_of_block N3.out)).trans N3.out)
          have K4 := hide (below_on K3.out b4)
          have NC := hide n4
          obtain ⟨c0, c1, c2, c3⟩ := row4 n4
          have J := hide (dlisted_at (Q := fun _ => True) (W := w4) (n := 0) (c := 0) (ao := none) (bs a) x y [] rfl (by omega) (by omega) (Il.nil _ _) (by have := LB.out a (by simp); omega))
          clear b4 n4 r0 r1 r2 r3 z3 y1 y2
          go_upto_region 9 with fail
          rw [← hw4, ← hC]
          clear hw4 hC y0
          go_wp2_with fail
          refine J.out.mono ?_
          rintro e w5 ⟨rfl, b5⟩
          have N5 := hide ((b5.block B (lt_of_block N4.out)).trans N4.out)
          have K5 := hide (below_on K4.out b5)
          clear c0 c1 c2 c3
          obtain ⟨c0, c1, c2, c3⟩ := row4 ((b5.block C (lt_of_block NC.out)).trans NC.out)
          obtain ⟨r0, r1, r2, r3⟩ := row4 N5.out
          have z5 : ∀ q, w5.frozen? ⟨B, q, none⟩ = false := fun q => frozen_of_row w5 B q _ 45 N5.out
          clear b5 J
          rw [← YES.out]
          go_wp2_with fail
          exact bodyPost_ret (res_rt rfl rfl rfl (w4s_row _ _ _ _ N5.out)) rfl ⟨bs a, x, y, rfl, fun _ => hv.out, w4s_below _ _ _ _ K5.out hBs⟩
  · have NO : Hid (headRd s.data.toList = false) := firstD_no (by rw [← HS.out]; exact h3)
    have h3' : ((ws.length : Int) != 3) = true := by simpa using (by omega : ¬ (ws.length : Int) = 3)
    go_wp2_with fail
    exact bodyPost_ret (res_rt rfl rfl rfl (w4s_row _ _ _ _ N3.out)) rfl ⟨⟨#[]⟩, 0, 0, by rw [NO.out]; rfl, (fun e => by rw [NO.out] at e; cases e), w4s_below _ _ _ _ K3.out hBs⟩
end Go.Proofs.YtpolajoephjdhaaGreatDoor
