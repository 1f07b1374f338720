/-
  Plan's law: keeps.
-/
import Derived.Test.YthgjdmomcpcolaaKc
namespace Go.Proofs.Ythgjdmomcpcolaa
open Go.RowKit
set_option maxRecDepth 100000
theorem Bl.label {W : World} {gb : Nat} {own : Nat → Nat} {vl vm vo vn : Value} {ls os : List Value} {ms ns : List Int} {ci cj : Nat} {P R : Nat → Bool} (h : Bl W gb own vl vm vo vn ls ms os ns ci cj P R) {v : Value} (h0 : In (fun k => own k = 0) v) (hv : ∀ k, v.ownBlock = some k → k < W.heap.size) (lab : Nat) : Bl W gb (lbl own v lab) vl vm vo vn ls ms os ns ci cj P R := by
  have kp : ∀ x, x ≠ 0 → ∀ k, own k = x → ¬ False ∧ lbl own v lab k = x := fun x hx k e => ⟨id, by rw [lbl_other (fun c => hx (by rw [← e]; exact h0 k c)), e]⟩
  have hm := Mv.refl W (fun _ => False)
  exact {
    cells := h.cells
    gb1 := (kp 1 (by decide) gb h.gb1).2
    l := h.l
    l2 := fun k e => (kp 2 (by decide) k (h.l2 k e)).2
    m := h.m
    m3 := fun k e => (kp 3 (by decide) k (h.m3 k e)).2
    o := h.o
    o4 := fun k e => (kp 4 (by decide) k (h.o4 k e)).2
    n := h.n
    n5 := fun k e => (kp 5 (by decide) k (h.n5 k e)).2
    rows := fun q h1 h2 => (h.rows q h1 h2).move hm (kp _ label_ne.1)
    orows := fun q h1 h2 => (h.orows q h1 h2).move hm (kp _ label_ne'.1) (kp 6 (by decide))
    lt := lbl_lt h.lt (Nat.le_refl _) hv }
theorem info32 : (Try.prog.info? 32).map (fun i => (i.zero, i.size, i.bytes)) = some (some (.slice none 0 0), 1, 24) := by kernel_rfl
theorem vrep_set {l : List Value} {m : Value} {i : Nat} (h : i < l.length) : (List.replicate i m ++ l.drop i).set i m = List.replicate (i + 1) m ++ l.drop (i + 1) := by
  rw [List.set_append_right _ _ (by simp), List.length_replicate, Nat.sub_self, List.drop_eq_getElem_cons h, List.set_cons_zero, List.replicate_succ', List.append_assoc]
  rfl
theorem vrep_len {l : List Value} {m : Value} {i : Nat} (h : i ≤ l.length) : (List.replicate i m ++ l.drop i).length = l.length := by
  simp
  omega
/-- What the first loop leaves. -/
def Kl (W : World) (gb : Nat) (own : Nat → Nat) (T : Nat → Prop) (vo vn : Value) (ls os : List Value) (ns : List Int) (ci cj : Nat) (P R : Nat → Bool) (v : Value) (rs : List Value) (sts : List (List Nat)) (i : Nat) (X : World) : Prop :=
  ∃ own' vl' vm' ms', Bl X gb own' vl' vm' vo vn (ls ++ rs.take i) ms' os ns ci cj P R ∧ ms'.length = (ls ++ rs.take i).length ∧ Mv W X (fun k => own k ≠ 0 ∨ T k) ∧ (∀ k, own' k ≠ 0 → own k ≠ 0 ∨ (∃ j, ∃ h : j < rs.length, j < i ∧ rs[j].ownBlock = some k) ∨ W.heap.size ≤ k) ∧ X.ownsRow 0 23 1 v rs.length rs ∧ (∀ j (h : j < rs.length) (h2 : j < sts.length), i ≤ j → Rw X 0 rs[j] (up sts[j])) ∧ In (fun k => own' k = 0) v ∧ (∀ j (h : j < rs.length), i ≤ j → In (fun k => own' k = 0) rs[j])
theorem Kl.next {W : World} {gb : Nat} {own : Nat → Nat} {T : Nat → Prop} {vo vn : Value} {ls os : List Value} {ns : List Int} {ci cj : Nat} {P R : Nat → Bool} {v : Value} {rs : List Value} {sts : List (List Nat)} {i : Nat} {X : World}
    (h : Kl W gb own T vo vn ls os ns ci cj P R v rs sts i X) (hs : Ss W 0 v rs sts) (hTv : In T v) (hTr : ∀ r ∈ rs, In T r) (_hT : ∀ k, T k → own k = 0) (hi : i < rs.length) (hn : rs.length ≤ 1000) (hst : ∀ st ∈ sts, st.length ≤ 1000) (hI : ∀ q, ls.length ≤ q → P q = true) (hls : ls.length ≤ 50000) :
    Calls Try.prog 31 #[.pointer (some ⟨gb, 0, none⟩), rs[i]] X fun e X' => e = .returned (.tuple #[]) ∧ Kl W gb own T vo vn ls os ns ci cj P R v rs sts (i + 1) X' := by
  obtain ⟨own', vl', vm', ms', k1, k2, k3, k4, k5, k6, k7, k8⟩ := h
  have hsl : i < sts.length := by have := hs.2.1; omega
  have hlt : ∀ j (h : j < rs.length) k, rs[j].ownBlock = some k → k < W.heap.size := fun j h k e => hs.lt.2 _ (List.getElem_mem h) k e
  have hvl := hs.lt.1
  have hlen : (ls ++ rs.take i).length = ls.length + i := by
    rw [List.length_append, List.length_take]
    omega
  refine (keep_any k1 k2 (hI _ (by omega)) (by omega) (k6 i hi hsl (Nat.le_refl _)) (k8 i hi (Nat.le_refl _)) (by rw [up_len]; exact hst _ (List.getElem_mem hsl))).mono ?_
  rintro e X' ⟨rfl, own2, vl2, vm2, g1, g2, g3⟩
  refine ⟨rfl, own2, vl2, vm2, ms' ++ [-1000 - ((ls ++ rs.take i).length : Int)], ?_, ?_, ?_, ?_, ?_, ?_, ?_, ?_⟩
  · rw [List.take_succ_eq_append_getElem hi, ← List.append_assoc]
    exact g1
  · rw [List.length_append, k2, hlen, List.length_append, List.length_take, List.length_singleton]
    omega
  · refine k3.trans g2 (fun k hk e => ?_)
    rcases e with e | e
    · rcases k4 k e with c | ⟨j, hj, _, c⟩ | c
      · exact .inl c
      · exact .inr (hTr _ (List.getElem_mem hj) k c)
      · omega
    · exact .inr (hTr _ (List.getElem_mem hi) k e)
  · intro k e
    rcases g3 k e with c | c | c
    · rcases k4 k c with c | ⟨j, hj, hji, c⟩ | c
      · exact .inl c
      · exact .inr (.inl ⟨j, hj, by omega, c⟩)
      · exact .inr (.inr c)
    · exact .inr (.inl ⟨i, hi, by omega, c⟩)
    · exact .inr (.inr (Nat.le_trans k3.size c))
  · refine g2.own k5 (fun k e x => ?_)
    rcases x with x | x
    · exact x (k7 k e)
    · exact own_apart hs.1 (hs.2.2.1 i hi hsl) (by decide) k e x
  · intro j hj hj2 hij
    refine g2.own (k6 j hj hj2 (by omega)) (fun k e x => ?_)
    rcases x with x | x
    · exact x (k8 j hj (by omega) k e)
    · exact hs.2.2.2 j i hj hi (by omega) k e x
  · intro k e
    have ht := hTv k e
    have h1 := hvl k e
    apply Classical.byContradiction
    intro x
    rcases g3 k x with c | c | c
    · exact c (k7 k e)
    · exact own_apart hs.1 (hs.2.2.1 i hi hsl) (by decide) k e c
    · have := k3.size
      omega
  · intro j hj hij k e
    apply Classical.byContradiction
    intro x
    rcases g3 k x with c | c | c
    · exact c (k8 j hj (by omega) k e)
    · exact hs.2.2.2 j i hj hi (by omega) k e c
    · have := k3.size
      have := hlt j hj k e
      omega
/-- What is left when all is kept. -/
def Ko (W : World) (gb : Nat) (own : Nat → Nat) (T : Nat → Prop) (ls os : List Value) (ci cj : Nat) (P R : Nat → Bool) (v : Value) (rs : List Value) (X : World) : Prop :=
  ∃ own' vl' vm' vo' vn' ms' ns', Bl X gb own' vl' vm' vo' vn' (ls ++ rs) ms' (os ++ [v]) ns' ci cj P R ∧ ms'.length = (ls ++ rs).length ∧ ns'.length = (os ++ [v]).length ∧ Mv W X (fun k => own k ≠ 0 ∨ T k) ∧ (∀ k, own' k ≠ 0 → own k ≠ 0 ∨ T k ∨ W.heap.size ≤ k)
set_option maxHeartbeats 8000000 in
theorem keeps_any {W : World} {gb : Nat} {own : Nat → Nat} {T : Nat → Prop} {vl vm vo vn : Value} {ls os : List Value} {ms ns : List Int} {ci cj : Nat} {P R : Nat → Bool} (h : Bl W gb own vl vm vo vn ls ms os ns ci cj P R) (hml : ms.length = ls.length) (hnl : ns.length = os.length) (hI : ∀ q, ls.length ≤ q → P q = true) (hJ : R os.length = true) (hls : ls.length ≤ 50000) (hos : os.length ≤ 100000)
    {v : Value} {rs : List Value} {sts : List (List Nat)} (hs : Ss W 0 v rs sts) (hTv : In T v) (hTr : ∀ r ∈ rs, In T r) (hT : ∀ k, T k → own k = 0) (hn : rs.length ≤ 1000) (hst : ∀ st ∈ sts, st.length ≤ 1000) :
    Calls Try.prog 30 #[.pointer (some ⟨gb, 0, none⟩), v] W fun e X => e = .returned (.tuple #[]) ∧ Ko W gb own T ls os ci cj P R v rs X := by
  have HT : Hid (In T v ∧ (∀ r ∈ rs, In T r) ∧ (∀ k, T k → own k = 0)) := ⟨hTv, hTr, hT⟩
  have K0 : Hid (Kl W gb own T vo vn ls os ns ci cj P R v rs sts 0 W) := ⟨own, vl, vm, ms, by simpa using h, by simpa using hml, Mv.refl _ _, fun k e => .inl e, hs.1, fun j h1 h2 _ => hs.2.2.1 j h1 h2, fun k e => hT k (hTv k e), fun j hj _ k e => hT k (hTr _ (List.getElem_mem hj) k e)⟩
  have HB : Hid (ns.length = os.length ∧ R os.length = true ∧ os.length ≤ 100000 ∧ rs.length ≤ 1000) := ⟨hnl, hJ, hos, hn⟩
  obtain ⟨ao, co, rfl⟩ := own_len h.o
  obtain ⟨an, cn', rfl⟩ := own_len h.n
  obtain ⟨av, cv, rfl⟩ := own_len hs.1
  obtain ⟨hcv1, hcv2⟩ := own_cap hs.1
  obtain ⟨m, hm⟩ : ∃ m : Int, m = -1000000 - (os.length : Int) := ⟨_, rfl⟩
  have t0 : IntKind.i64.wrap (-1000000 - (os.length : Int)) = m := by
    rw [IntKind.wrap_i64]
    omega
  obtain ⟨i3, hi3, hz30, hz31, hz32⟩ := info_parts info32
  obtain ⟨n, hn'⟩ : ∃ n, n = rs.length := ⟨_, rfl⟩
  have HN := hide hn'
  have hvv : Value.slice av n cv = Value.slice av rs.length cv := by rw [hn']
  have KN : Hid (∀ i X, (hi : i < rs.length) → Kl W gb own T (.slice ao os.length co) (.slice an ns.length cn') ls os ns ci cj P R (.slice av n cv) rs sts i X → Calls Try.prog 31 #[.pointer (some ⟨gb, 0, none⟩), rs[i]] X fun e X' => e = .returned (.tuple #[]) ∧ Kl W gb own T (.slice ao os.length co) (.slice an ns.length cn') ls os ns ci cj P R (.slice av n cv) rs sts (i + 1) X') := by
    unfold Hid
    rw [hvv]
    exact fun i X hi hk => hk.next hs hTv hTr hT hi hn hst hI hls
  rw [← hvv] at K0 HT ⊢
  rw [← hn'] at HB hcv1
  clear hvv
  clear h hml hnl hI hJ hls hos hs hTv hTr hT hn hst hm hn'
  go_enter Try.func30, Try.ntmps30
  go_wp2_with fail
  go_loopw [4] (fun v4 X => ∃ i : Nat, i ≤ n ∧ v4 = .int .i64 (i : Int) ∧ Hid (Kl W gb own T (.slice ao os.length co) (.slice an ns.length cn') ls os ns ci cj P R (.slice av n cv) rs sts i X)) (fun v4 _ => n - (intOf v4).toNat)
  case atStart => exact ⟨0, Nat.zero_le _, rfl, K0.out⟩
  case round =>
    obtain ⟨i, hi, rfl, HR⟩ := hrel
    clear K0
    by_cases hlt : i < n
    · have t1 : (i : Int) < (n : Int) := by omega
      have hir : i < rs.length := by have := HN.out; omega
      have JC := hide (KN.out i wr (by have := HN.out; omega) HR.out)
      obtain ⟨own', vl', vm', ms', k1, k2, k3, k4, k5, k6, k7, k8⟩ := HR.out
      rw [← HN.out] at k5
      obtain ⟨gv, cv', ev, -, -⟩ := own_form k5 (by omega)
      simp only [Value.slice.injEq] at ev
      obtain ⟨rfl, -, rfl⟩ := ev
      have c1 : wr.cell? ⟨gv, i, none⟩ = some rs[i] := by
        rw [k5.cellAt i (by omega), List.getElem?_eq_getElem hir]
      clear k1 k2 k3 k4 k5 k6 k7 k8 HR
      generalize rs[i] = r at c1 JC
      go_wp2_with fail
      refine JC.out.mono ?_
      rintro e X' ⟨rfl, hX⟩
      have HX := hide hX
      clear hX JC c1
      go_wp2_with fail
      go_roundw
      case rel => exact ⟨i + 1, by omega, rfl, HX.out⟩
      case measure => simp only [intOf]; omega
    · have t1 : ¬ (i : Int) < (n : Int) := by omega
      obtain rfl : i = n := by omega
      clear KN
      obtain ⟨own', vl', vm', ms', k1, k2, k3, k4, k5, k6, k7, k8⟩ := HR.out
      rw [List.take_of_length_le (by have := HN.out; omega)] at k1 k2
      have e2 : wr.cell? ⟨gb, 2, none⟩ = some (.slice ao os.length co) := by rw [cell_of_row _ _ _ _ 35 (0, 0) k1.cells]; rfl
      obtain ⟨wr1, hwr1⟩ : ∃ X, X = wr.alloc (.cells #[.int .i64 m] 3) := ⟨_, rfl⟩
      obtain ⟨gr, hgr⟩ : ∃ g, g = wr.heap.size := ⟨_, rfl⟩
      have hb1 : Below wr.heap.size wr wr1 := by rw [hwr1]; exact below_alloc wr _
      have hgr0 : own' gr = 0 := by
        apply Classical.byContradiction
        intro x
        have := k1.lt gr x
        omega
      have P0 : Hid (∃ own2, Bl wr1 gb own2 vl' vm' (.slice ao os.length co) (.slice an ns.length cn') (ls ++ rs) ms' os ns ci cj P R ∧ ms'.length = (ls ++ rs).length ∧ Mv W wr1 (fun k => own k ≠ 0 ∨ T k) ∧ (∀ k, own2 k ≠ 0 → own k ≠ 0 ∨ T k ∨ W.heap.size ≤ k) ∧ wr1.ownsRow 0 23 1 (.slice av i cv) rs.length (List.replicate 0 (.slice (some ⟨gr, 0, none⟩) 1 1) ++ rs.drop 0) ∧ In (fun k => own2 k = 0) (.slice av i cv) ∧ own2 gr = 6 ∧ wr1.cell? ⟨gr, 0, none⟩ = some (.int .i64 m)) := by
        have hob : (Value.slice (some ⟨gr, 0, none⟩) 1 1).ownBlock = some gr := rfl
        refine ⟨lbl own' (.slice (some ⟨gr, 0, none⟩) 1 1) 6, (k1.later hb1).label (fun k e => ?_) (fun k e => ?_) 6, k2, k3.later hb1, fun k e => ?_, ?_, fun k e => ?_, lbl_own _ _ _ gr rfl, ?_⟩
        · rw [hob] at e
          cases e
          exact hgr0
        · rw [hob] at e
          cases e
          rw [hwr1, alloc_size]
          omega
        · by_cases c : (Value.slice (some ⟨gr, 0, none⟩) 1 1).ownBlock = some k
          · rw [hob] at c
            cases c
            have := k3.size
            exact .inr (.inr (by omega))
          · rw [lbl_other c] at e
            rcases k4 k e with c | ⟨j, hj, _, c⟩ | c
            · exact .inl c
            · exact .inr (.inl (HT.out.2.1 _ (List.getElem_mem hj) k c))
            · exact .inr (.inr c)
        · simpa using own_later k5 hb1
        · show lbl own' _ 6 k = 0
          rw [lbl_other (fun c => ?_)]
          · exact k7 k e
          · rw [hob] at c
            cases c
            have := (k5.lt gr e).2
            omega
        · rw [hwr1, hgr, cell_of_row _ _ _ _ 3 (0, 0) (heap_alloc_new wr _)]
          rfl
      clear k1 k2 k3 k4 k5 k6 k7 k8 HR hgr0 hb1
      go_upto_region 6 with fail
      rw [← hwr1, ← hgr]
      clear hwr1 hgr e2
      go_wp2_with fail
      go_loopw [7] (fun v7 X => ∃ q : Nat, q ≤ i ∧ v7 = .int .i64 (q : Int) ∧ Hid (∃ own2, Bl X gb own2 vl' vm' (.slice ao os.length co) (.slice an ns.length cn') (ls ++ rs) ms' os ns ci cj P R ∧ ms'.length = (ls ++ rs).length ∧ Mv W X (fun k => own k ≠ 0 ∨ T k) ∧ (∀ k, own2 k ≠ 0 → own k ≠ 0 ∨ T k ∨ W.heap.size ≤ k) ∧ X.ownsRow 0 23 1 (.slice av i cv) rs.length (List.replicate q (.slice (some ⟨gr, 0, none⟩) 1 1) ++ rs.drop q) ∧ In (fun k => own2 k = 0) (.slice av i cv) ∧ own2 gr = 6 ∧ X.cell? ⟨gr, 0, none⟩ = some (.int .i64 m))) (fun v7 _ => i - (intOf v7).toNat)
      case atStart => exact ⟨0, Nat.zero_le _, rfl, P0.out⟩
      case round =>
        obtain ⟨q, hq, rfl, HQ⟩ := hrel
        clear P0
        obtain ⟨own2, g1, g2, g3, g4, g5, g6, g7, g8⟩ := HQ.out
        rw [← HN.out] at g5
        by_cases hqi : q < i
        · have t2 : (q : Int) < (i : Int) := by omega
          obtain ⟨gv, cv', ev, -, -⟩ := own_form g5 (by omega)
          simp only [Value.slice.injEq] at ev
          obtain ⟨rfl, -, rfl⟩ := ev
          obtain ⟨y, hy⟩ : ∃ y, (List.replicate q (Value.slice (some ⟨gr, 0, none⟩) 1 1) ++ rs.drop q)[q]? = some y := ⟨_, List.getElem?_eq_getElem (by rw [vrep_len (by have := HN.out; omega)]; have := HN.out; omega)⟩
          have c1 : wr.cell? ⟨gv, q, none⟩ = some y := by rw [g5.cellAt q (by omega), hy]
          have f1 := g5.frozenAt q
          have HN1 : Hid (∃ own2, Bl (wr.setCell ⟨gv, q, none⟩ (.slice (some ⟨gr, 0, none⟩) 1 1)) gb own2 vl' vm' (.slice ao os.length co) (.slice an ns.length cn') (ls ++ rs) ms' os ns ci cj P R ∧ ms'.length = (ls ++ rs).length ∧ Mv W (wr.setCell ⟨gv, q, none⟩ (.slice (some ⟨gr, 0, none⟩) 1 1)) (fun k => own k ≠ 0 ∨ T k) ∧ (∀ k, own2 k ≠ 0 → own k ≠ 0 ∨ T k ∨ W.heap.size ≤ k) ∧ (wr.setCell ⟨gv, q, none⟩ (.slice (some ⟨gr, 0, none⟩) 1 1)).ownsRow 0 23 1 (.slice (some ⟨gv, 0, none⟩) i cv) rs.length (List.replicate (q + 1) (.slice (some ⟨gr, 0, none⟩) 1 1) ++ rs.drop (q + 1)) ∧ In (fun k => own2 k = 0) (.slice (some ⟨gv, 0, none⟩) i cv) ∧ own2 gr = 6 ∧ (wr.setCell ⟨gv, q, none⟩ (.slice (some ⟨gr, 0, none⟩) 1 1)).cell? ⟨gr, 0, none⟩ = some (.int .i64 m)) := by
            have h0 : own2 gv = 0 := g6 gv rfl
            refine ⟨own2, g1.set h0 _, g2, g3.set (.inr (HT.out.1 gv rfl)) _ _, g4, ?_, g6, g7, ?_⟩
            · have := (g5.stored q (.slice (some ⟨gr, 0, none⟩) 1 1)).1
              rw [vrep_set (by have := HN.out; omega)] at this
              rw [← HN.out]
              exact this
            · exact (Mv.set (S := fun k => k = gv) (Mv.refl wr _) rfl q _).cell g8 (fun (e : gr = gv) => by rw [e] at g7; omega)
          clear HQ g1 g2 g3 g4 g5 g6 g7 g8 hy
          go_wp2_with fail
          go_roundw
          case rel => exact ⟨q + 1, by omega, rfl, HN1.out⟩
          case measure => simp only [intOf]; omega
        · have t2 : ¬ (q : Int) < (i : Int) := by omega
          obtain rfl : q = i := by omega
          rw [List.drop_eq_nil_of_le (by have := HN.out; omega), List.append_nil] at g5
          have e2 : wr.cell? ⟨gb, 2, none⟩ = some (.slice ao os.length co) := by rw [cell_of_row _ _ _ _ 35 (0, 0) g1.cells]; rfl
          have HG1 := hide g1
          have HG := hide (And.intro g2 (And.intro g3 g4))
          have HG5 := hide g5
          have HG6 := hide g6
          have HG8 := hide (And.intro g7 g8)
          clear g1 g2 g3 g4 g5 g6 g7 g8 HQ
          go_wp2_with (at_builtin; refine wpList_append_kept rfl _ _ 33 rfl 0 32 i3 (.slice none 0 0) 1 24 Try.underlying33 hi3 hz30 hz31 hz32 rfl (by decide) (.slice ao os.length co) os.length os rfl ?p1 ⟨wr.heap.size, 0, none⟩ 1 1 [.slice av q cv] rfl rfl (lit_cells wr _ 32) ?p2 ?p3 ?p4 ?p5 ?_)
          case p1 => exact (HG1.out.later (below_alloc wr _)).o
          case p2 => rfl
          case p3 => have := HB.out; unfold maxLen; omega
          case p4 => have := HB.out; omega
          intro v8 w8 h8 hg8 hb8' _
          have hb8 : v8.ownBlock = (Value.slice ao os.length co).ownBlock ∨ v8.ownBlock = some (wr.alloc (.cells #[.slice av q cv] 32)).heap.size := by rw [alloc_size]; exact hb8'
          have hB8 := HG1.out.later (below_alloc wr (.cells #[.slice av q cv] 32))
          have hc8 := hB8.block hg8 (fun k e => by have h2 : own2 k = 4 := HG1.out.o4 k e; omega)
          have c8 : w8.cell? ⟨gb, 2, none⟩ = some (.slice ao os.length co) := by rw [cell_of_row _ _ _ _ 35 (0, 0) hc8]; rfl
          have f8 : w8.frozen? ⟨gb, 2, none⟩ = false := frozen_of_row w8 gb _ _ 35 hc8
          have HL8 : Hid (∃ own3, Bl (w8.setCell ⟨gb, 2, none⟩ v8) gb own3 vl' vm' v8 (.slice an ns.length cn') (ls ++ rs) ms' (os ++ [.slice av q cv]) ns ci cj P R ∧ (w8.setCell ⟨gb, 2, none⟩ v8).ownsRow 0 23 1 (.slice av q cv) q (List.replicate q (.slice (some ⟨gr, 0, none⟩) 1 1)) ∧ In (fun k => own3 k = 0) (.slice av q cv) ∧ Mv W (w8.setCell ⟨gb, 2, none⟩ v8) (fun k => own k ≠ 0 ∨ T k) ∧ (∀ k, own3 k ≠ 0 → own k ≠ 0 ∨ T k ∨ W.heap.size ≤ k) ∧ One (w8.setCell ⟨gb, 2, none⟩ v8) own3 (.slice (some ⟨gr, 0, none⟩) 1 1) m) := by
            have hmf : Mv (wr.alloc (.cells #[.slice av q cv] 32)) (w8.setCell ⟨gb, 2, none⟩ v8) (fun k => k = gb ∨ (Value.slice ao os.length co).ownBlock = some k) := Mv.field hg8
            have hno : ∀ k, (Value.slice av q cv).ownBlock = some k → ¬ (k = gb ∨ (Value.slice ao os.length co).ownBlock = some k) := fun k e x => by
              have hk : own2 k = 0 := HG6.out k e
              rcases x with x | x
              · have := HG1.out.gb1
                rw [← x] at this
                omega
              · have : own2 k = 4 := HG1.out.o4 k x
                omega
            have hRa := own_later HG5.out (below_alloc wr (.cells #[.slice av q cv] 32))
            have hone : One wr own2 (.slice (some ⟨gr, 0, none⟩) 1 1) m := ⟨gr, rfl, HG8.out.1, HG8.out.2⟩
            have hone1 : One (wr.alloc (.cells #[.slice av q cv] 32)) own2 (.slice (some ⟨gr, 0, none⟩) 1 1) m := hone.move (Mv.of_below (below_alloc wr _) (fun _ => False)) (fun k e => ⟨id, e⟩)
            refine ⟨lbl own2 v8 4, hB8.pushO (by have := HB.out.1; omega) hg8 (by rw [List.length_append]; exact h8) hb8, hmf.own hRa hno, fun k e => ?_, ?_, ?_, hone1.move hmf (lbl_keep hB8.gb1 hB8.o4 hB8.lt hb8 (by decide) (by decide) (by decide))⟩
            · show lbl own2 v8 4 k = 0
              rw [lbl_other (fun x => ?_)]
              · exact HG6.out k e
              · rcases hb8 with c | c
                · exact hno k e (.inr (c ▸ x))
                · rw [c] at x
                  have := (HG5.out.lt k e).2
                  simp only [Option.some.injEq, alloc_size] at x
                  omega
            · refine Mv.trans (HG.out.2.1.alloc _) hmf (fun k hk x => ?_)
              have hne : own2 k ≠ 0 := by
                rcases x with x | x
                · rw [x, HG1.out.gb1]; decide
                · rw [show own2 k = 4 from HG1.out.o4 k x]; decide
              rcases HG.out.2.2 k hne with c | c | c
              · exact .inl c
              · exact .inr c
              · omega
            · intro k e
              have := lbl_from (W := wr.alloc (.cells #[.slice av q cv] 32)) (own := own2) (v := .slice ao os.length co) (v' := v8) (F := 4) (fun k e => by have : own2 k = 4 := HG1.out.o4 k e; omega) (hb8.imp id (fun c => ⟨_, c, Nat.le_refl _⟩)) k e
              rcases this with c | c
              · exact HG.out.2.2 k c
              · have := HG.out.2.1.size
                rw [alloc_size] at c
                exact .inr (.inr (by omega))
          obtain ⟨a8, c8', rfl⟩ := own_len h8
          clear h8 hg8 hb8 hb8' hB8 hc8 HG1 HG5 HG6 HG8 e2
          go_upto_region 11 with fail
          obtain ⟨w9, hw9⟩ : ∃ X, X = w8.setCell ⟨gb, 2, none⟩ (.slice a8 (os.length + 1) c8') := ⟨_, rfl⟩
          rw [← hw9] at HL8 ⊢
          clear hw9 c8 f8
          obtain ⟨own3, g1, g2, g3, g4, g5, g6⟩ := HL8.out
          have c9 : w9.cell? ⟨gb, 3, none⟩ = some (.slice an ns.length cn') := by rw [cell_of_row _ _ _ _ 35 (0, 0) g1.cells]; rfl
          have HG1 := hide g1
          have HG2 := hide (And.intro g2 (And.intro g3 (And.intro g4 (And.intro g5 g6))))
          clear HL8 g1 g2 g3 g4 g5 g6
          go_wp2_with (at_builtin; refine wpList_append_nums rfl _ _ rfl 0 (.slice an ns.length cn') ns.length (zc ns) rfl ?q1 (.slice (some ⟨w9.heap.size, 0, none⟩) 1 1) [m] rfl (Rl.lit w9 m) ?q2 ?q3 ?_)
          case q1 => exact (HG1.out.later (below_alloc w9 _)).n
          case q2 => have := HB.out; simp; omega
          case q3 => exact Nat.zero_le _
          intro v10 w10 h10 hg10 hb10'
          have hb10 : v10.ownBlock = (Value.slice an ns.length cn').ownBlock ∨ v10.ownBlock = some (w9.alloc (.cells #[.int .i64 m] 3)).heap.size := by rw [alloc_size]; exact hb10'
          have hB10 := HG1.out.later (below_alloc w9 (.cells #[.int .i64 m] 3))
          have hc10 := hB10.block hg10 (fun k e => by have h2 : own3 k = 5 := HG1.out.n5 k e; omega)
          have c10 : w10.cell? ⟨gb, 3, none⟩ = some (.slice an ns.length cn') := by rw [cell_of_row _ _ _ _ 35 (0, 0) hc10]; rfl
          have f10 : w10.frozen? ⟨gb, 3, none⟩ = false := frozen_of_row w10 gb _ _ 35 hc10
          have HE : Hid (Ko W gb own T ls os ci cj P R (.slice av q cv) rs (w10.setCell ⟨gb, 3, none⟩ v10)) := by
            obtain ⟨g2, g3, g4, g5, g6⟩ := HG2.out
            have hmf : Mv (w9.alloc (.cells #[.int .i64 m] 3)) (w10.setCell ⟨gb, 3, none⟩ v10) (fun k => k = gb ∨ (Value.slice an ns.length cn').ownBlock = some k) := Mv.field hg10
            have hbl := below_alloc w9 (.cells #[.int .i64 m] 3)
            have g2' := own_later g2 hbl
            have g6' : One (w9.alloc (.cells #[.int .i64 m] 3)) own3 (.slice (some ⟨gr, 0, none⟩) 1 1) m := g6.move (Mv.of_below hbl (fun _ => False)) (fun k e => ⟨id, e⟩)
            have hh := hB10.pushN HB.out.1 hg10 (m := m) (by unfold Rw; rw [zc_append, List.length_append]; exact h10) hb10 (xs := List.replicate q (.slice (some ⟨gr, 0, none⟩) 1 1)) (by have := HB.out; simp; omega) (by rw [List.length_replicate]; exact g2') g3 (fun x hx => by rw [(List.mem_replicate.1 hx).2]; exact g6') HB.out.2.1
            refine ⟨_, _, _, _, _, _, _, hh, HG.out.1, by simp [HB.out.1], ?_, ?_⟩
            · refine Mv.trans (g4.alloc _) hmf (fun k hk x => ?_)
              have hne : own3 k ≠ 0 := by
                rcases x with x | x
                · rw [x, HG1.out.gb1]; decide
                · rw [show own3 k = 5 from HG1.out.n5 k x]; decide
              rcases g5 k hne with c | c | c
              · exact .inl c
              · exact .inr c
              · omega
            · intro k e
              by_cases c : (Value.slice av q cv).ownBlock = some k
              · exact .inr (.inl (HT.out.1 k c))
              · rw [lbl_other c] at e
                have := lbl_from (W := w9.alloc (.cells #[.int .i64 m] 3)) (own := own3) (v := .slice an ns.length cn') (v' := v10) (F := 5) (fun k e => by have : own3 k = 5 := HG1.out.n5 k e; omega) (hb10.imp id (fun c => ⟨_, c, Nat.le_refl _⟩)) k e
                rcases this with c | c
                · exact g5 k c
                · have := g4.size
                  rw [alloc_size] at c
                  exact .inr (.inr (by omega))
          obtain ⟨a10, c10', rfl⟩ := own_len h10
          clear h10 hg10 hb10 hb10' hB10 hc10 HG1 HG2 c9
          go_wp2_with fail
          go_end0
          exact ⟨rfl, HE.out⟩
end Go.Proofs.Ythgjdmomcpcolaa
