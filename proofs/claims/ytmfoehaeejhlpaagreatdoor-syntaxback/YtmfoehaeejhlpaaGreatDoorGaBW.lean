import Derived.Test.YtmfoehaeejhlpaaGreatDoorGaBV
import Derived.Test.YtmfoehaeejhlpaaGreatDoorGaBI
import Derived.Test.YtmfoehaeejhlpaaGreatDoorGaBS
/-
  Same, of two trees that are one but for their places.
-/
namespace Go.Proofs.YtmfoehaeejhlpaaGreatDoor
open Go.RowKit Yn
set_option maxRecDepth 100000
open Classical in
/-- The least number of which something holds. -/
noncomputable def lst (P : Nat → Prop) : Nat := if h : ∃ k, P k ∧ ∀ j, j < k → ¬ P j then Classical.choose h else 0
theorem least {P : Nat → Prop} : ∀ k, P k → ∃ k, P k ∧ ∀ j, j < k → ¬ P j := by
  intro k
  induction k using Nat.strongRecOn with
  | _ k ih =>
    intro h
    by_cases c : ∃ j, j < k ∧ P j
    · obtain ⟨j, hj, hp⟩ := c
      exact ih j hj hp
    · exact ⟨k, h, fun j hj hp => c ⟨j, hj, hp⟩⟩
theorem lst_spec {P : Nat → Prop} (h : ∃ k, P k) : P (lst P) ∧ ∀ k, P k → lst P ≤ k := by
  obtain ⟨k0, h0⟩ := h
  have hl := least k0 h0
  unfold lst
  rw [dif_pos hl]
  have := Classical.choose_spec hl
  exact ⟨this.1, fun k hk => Nat.le_of_not_lt fun hlt => this.2 k hlt hk⟩
theorem Pr.last {B : Nat} {W : World} {ps : List (Nat × Nat)} {p : Nat × Nat} {k : Nat} (h : Pr B W (ps ++ [p]) k) : ∃ T k0, Pr B W ps k0 ∧ Nd (fun q => q < B) W T (pt p.1) ∧ Rl B W p.1 p.2 ∧ k = k0 + sz T := by
  obtain ⟨Ts, h1, h2, h3⟩ := h
  rw [List.length_append, show [p].length = 1 from rfl] at h1
  have hne : Ts ≠ [] := fun e => by rw [e] at h1; simp at h1
  have e := (List.dropLast_concat_getLast hne).symm
  have hd : Ts.dropLast.length = ps.length := by rw [List.length_dropLast]; omega
  refine ⟨Ts.getLast hne, szs Ts.dropLast, ⟨Ts.dropLast, hd, rfl, fun i a b => ?_⟩, ?_, ?_, ?_⟩
  · have q := h3 i (by rw [List.length_append]; omega) (by omega)
    rw [List.getElem_append_left a] at q
    rw [List.getElem_dropLast]
    exact q
  · have q := h3 ps.length (by rw [List.length_append]; simp) (by omega)
    have e1 : (ps ++ [p])[ps.length]'(by simp) = p := by simp
    rw [e1] at q
    rw [List.getLast_eq_getElem]
    have : Ts.length - 1 = ps.length := by omega
    simp only [this]
    exact q.1
  · have q := h3 ps.length (by rw [List.length_append]; simp) (by omega)
    have e1 : (ps ++ [p])[ps.length]'(by simp) = p := by simp
    rw [e1] at q
    exact q.2
  · rw [← h2]
    conv => lhs; rw [e]
    rw [szs_app, szs_one]
theorem Pr.app {B : Nat} {W : World} {ps qs : List (Nat × Nat)} {k j : Nat} (h : Pr B W ps k) (g : Pr B W qs j) : Pr B W (ps ++ qs) (k + j) := by
  obtain ⟨Ts, h1, h2, h3⟩ := h
  obtain ⟨Us, g1, g2, g3⟩ := g
  refine ⟨Ts ++ Us, by simp [h1, g1], by rw [szs_app, h2, g2], fun i a b => ?_⟩
  rw [List.length_append] at a b
  by_cases c : i < ps.length
  · rw [List.getElem_append_left c, List.getElem_append_left (by omega)]
    exact h3 i c (by omega)
  · rw [List.getElem_append_right (by omega), List.getElem_append_right (by omega)]
    have q := g3 (i - ps.length) (by omega) (by omega)
    simp only [h1]
    exact q
theorem Pr.len {B : Nat} {W : World} {ps : List (Nat × Nat)} {k : Nat} (h : Pr B W ps k) : ps.length ≤ k := by
  obtain ⟨Ts, h1, h2, -⟩ := h
  have := len_szs Ts
  omega
/-- How far Same has come. -/
def Iv (B : Nat) (W : World) (M s gm : Nat) (wr : World) (k : Nat) : Prop := ∃ L ps t n, Ss B wr s gm L ps ∧ Below B W wr ∧ IL B W M t L ∧ Tn M t n L ∧ Pr B W ps k ∧ n + k < M
set_option maxHeartbeats 8000000 in
theorem same_er {w : World} {a b : Nat} {T : Tree} (hT : Nd (fun q => q < w.heap.size) w T (pt a)) (hab : Rl w.heap.size w a b) (hz : sz T ≤ 900000) : Calls Tryz.prog 17 #[.pointer (some ⟨a, 0, none⟩), .pointer (some ⟨b, 0, none⟩)] w fun e w' => e = .returned (.bool true) ∧ Below w.heap.size w w' := by
  have hmm := @run_makeMap Tryz.prog
  obtain ⟨S1, Q1, B1⟩ := same_start w a b
  obtain ⟨w1, hw1⟩ : ∃ X, X = (((w.alloc (.map #[] 0)).alloc (.cells #[.pointer (some ⟨a, 0, none⟩), .pointer (some ⟨b, 0, none⟩)] 91)).alloc (.cells #[.map (some w.heap.size), .slice (some ⟨w.heap.size + 1, 0, none⟩) 1 1] 94)) := ⟨_, rfl⟩
  rw [← hw1] at S1 Q1 B1
  obtain ⟨B, hB⟩ : ∃ X, X = w.heap.size := ⟨_, rfl⟩
  obtain ⟨M, hM⟩ : ∃ X, X = sz T + 1 := ⟨_, rfl⟩
  have I0 : Hid (Iv w.heap.size w M (w.heap.size + 2) w.heap.size w1 (sz T)) := by
    refine ⟨[], [(a, b)], fun _ => M, 0, ⟨by omega, by omega, by omega, ⟨#[], 0, S1.2, rfl⟩, some ⟨w.heap.size + 1, 0, none⟩, 1, S1.1, ?_⟩, B1, (by intro p hp; cases hp), ⟨fun _ _ => rfl, fun x hx => by obtain ⟨v, hv⟩ := hx; cases hv⟩, ⟨[T], rfl, szs_one T, fun i h h' => ?_⟩, by omega⟩
    · refine ⟨rfl, .inr ⟨w.heap.size + 1, 1, _, rfl, by omega, Q1, by simp, by unfold maxLen; omega, rfl, rfl⟩⟩
    · have h0 : i = 0 := by simpa using h
      subst h0
      exact ⟨hT, hab⟩
  have HM := hide hM
  have HZ := hide hz
  have HBW : Hid (w.heap.size ≤ w.heap.size) := Nat.le_refl _
  have PJ : Hid (∀ wr k, Iv w.heap.size w M (w.heap.size + 2) w.heap.size wr k → (∃ ao c, wr.cell? ⟨w.heap.size + 2, 1, none⟩ = some (.slice ao 0 c)) ∨ ∃ a b n0 ao c, wr.cell? ⟨w.heap.size + 2, 1, none⟩ = some (.slice ao (n0 + 1) c) ∧ n0 ≤ 1000000 ∧ Calls Tryz.prog 36 #[.pointer (some ⟨w.heap.size + 2, 0, none⟩)] wr fun e w' => e = .returned (.agg #[.pointer (some ⟨a, 0, none⟩), .pointer (some ⟨b, 0, none⟩)]) ∧ Calls Tryz.prog 35 #[.pointer (some ⟨w.heap.size + 2, 0, none⟩), .agg #[.pointer (some ⟨a, 0, none⟩), .pointer (some ⟨b, 0, none⟩)]] w' fun e w'' => e = .returned (.bool true) ∧ ∃ k', k' < k ∧ Iv w.heap.size w M (w.heap.size + 2) w.heap.size w'' k') := fun wr k hk => by
    obtain ⟨L, ps, t, n, hS, hBl, hI, hTn, hP, hlt⟩ := hk
    have hlen := hP.len
    rcases List.eq_nil_or_concat ps with rfl | ⟨p0, p, rfl⟩
    · left
      obtain ⟨-, -, -, -, ao, c, k5, -⟩ := hS
      exact ⟨ao, c, by rw [cell_of_row wr _ _ _ 94 (0, 0) k5]; rfl⟩
    · right
      rw [List.concat_eq_append] at hS hP hlen
      obtain ⟨a', b'⟩ := p
      obtain ⟨T', k0, hP0, hT', hR', ek⟩ := hP.last
      have hl0 := hP0.len
      have hpos := sz_pos T'
      have hS' := hS
      obtain ⟨-, -, -, -, ao, c, k5, -⟩ := hS'
      refine ⟨a', b', p0.length, ao, c, ?_, by omega, (pop_any hS (by omega)).mono ?_⟩
      · rw [cell_of_row wr _ _ _ 94 (0, 0) k5]
        show some (Value.slice ao (p0 ++ [(a', b')]).length c) = _
        rw [List.length_append]
        rfl
      · rintro e w2 ⟨rfl, s2, m2⟩
        refine ⟨rfl, ?_⟩
        have b2 : Below w.heap.size w w2 := hBl.trans (m2.below hBl.size (fun x e => by omega))
        refine (join_any s2 b2 (Nat.le_refl _) hI hTn (by omega) hT' hR' (by omega)).mono ?_
        rintro e w3 ⟨rfl, L', ps', t', n', k', j1, j2, j3, j4, j5, j6, j7⟩
        exact ⟨rfl, k0 + k', by omega, L', p0 ++ ps', t', n', j1, j2, j3, j4, hP0.app j6, by omega⟩
  have IB : Hid (∀ wr k, Iv w.heap.size w M (w.heap.size + 2) w.heap.size wr k → Below w.heap.size w wr) := fun wr k hk => by
    obtain ⟨L, ps, t, n, -, hBl, -⟩ := hk
    exact hBl
  clear S1 Q1 B1 hT hab hz hM
  go_enter Tryz.func17, Tryz.ntmps17
  go_upto_region 2 with fail
  rw [← hw1, show w.heap.size + 1 + 1 = w.heap.size + 2 from rfl]
  clear hw1 hmm
  generalize w.heap.size + 2 = s at *
  go_loopw [15] (fun _ wr => Hid (∃ k, Iv w.heap.size w M s w.heap.size wr k)) (fun _ wr => lst (Iv w.heap.size w M s w.heap.size wr))
  case atStart => exact ⟨_, I0.out⟩
  case round =>
    obtain ⟨hl1, hl2⟩ := lst_spec hrel.out
    have HB := hide (IB.out wr _ hl1)
    rcases PJ.out wr _ hl1 with ⟨ao, c, c1⟩ | ⟨a', b', n0, ao, c, c1, hn0, hc⟩
    · clear hl1 hl2
      go_wp2_with fail
      go_ret
      exact ⟨rfl, HB.out⟩
    · have J := hide hc
      have i9 : (0 : Int) < ((n0 + 1 : Nat) : Int) := by omega
      obtain ⟨ml, hml⟩ : ∃ X, X = lst (Iv w.heap.size w M s w.heap.size wr) := ⟨_, rfl⟩
      rw [← hml] at J
      have HML := hide hml
      clear hc hl1 hl2 hml
      go_wp2_with fail
      refine J.out.mono ?_
      rintro e w2 ⟨rfl, h2⟩
      have J2 := hide h2
      clear h2 J
      go_wp2_with fail
      refine J2.out.mono ?_
      rintro e w3 ⟨rfl, k', hk1, hk2⟩
      have K1 := hide hk1
      have K2 := hide hk2
      clear hk1 hk2 J2
      go_wp2_with fail
      go_roundw
      case measure =>
        have := (lst_spec ⟨k', K2.out⟩).2 k' K2.out
        have := K1.out
        rw [← HML.out]
        omega
      case rel => exact ⟨k', K2.out⟩
end Go.Proofs.YtmfoehaeejhlpaaGreatDoor

/-
  SyntaxBack: the walk.
-/
namespace Go.Proofs.YtmfoehaeejhlpaaGreatDoor
open Go.RowKit Yn
set_option maxRecDepth 100000
theorem neq_nil (g : Nat) (w : World) : (binOp .neq 25 (.iface 61 (.pointer (some ⟨g, 0, none⟩))) .nilIface).run Tryz.prog w = .ok (.bool true) w := by kernel_rfl
/-- What is said of one source that was taken. -/
theorem back_facts {src : ByteArray} {T : Tree} {s : S} (h : parseT src = .ok T s) : ∃ l, T = .mk 1 (bs []) 0 l 0 ∧ OkP wsB (.mk 1 (bs []) 0 l 0) ∧ sz (.mk 1 (bs []) 0 l 0) ≤ 16003 := by
  obtain ⟨h1, h2⟩ := read_ok h
  have h3 := h1
  obtain ⟨l, rfl, -⟩ := h3
  exact ⟨l, rfl, h1, h2⟩
set_option maxHeartbeats 8000000 in
theorem back_any (src : ByteArray) (W : World) (hK : Kd W) (hpf : Pf W.heap.size W) (_hz : src.size ≤ 9223372036854775807) : Calls Tryz.prog 5 #[.string src] W fun e w' => e = .returned (.bool true) ∧ Below W.heap.size W w' := by
  have J0 := hide (shown_any W hK hpf)
  have HK := hide hK
  have HP := hide hpf
  clear hK hpf
  cases hp : parseT src with
  | out => exact absurd hp (parseT_out src)
  | no A er =>
    have hne := no_ne hp
    have hin := no_in hp
    have JP : Hid (∀ w', Below W.heap.size W w' → Calls Tryz.prog 8 #[.string src] w' fun e w'' => Below w'.heap.size w' w'' ∧ ∃ g, e = .returned (.tuple #[.pointer none, .iface 61 (.pointer (some ⟨g, 0, none⟩))]) ∧ w''.heap[g]? = some (.cells #[.int .i64 (A : Int), .int .i64 (er : Int)] 77 (0, 0))) := fun w' hb => by
      have := parse_all src w' (HK.out.below hb)
      rw [hp] at this
      refine this.mono ?_
      rintro e w'' ⟨h1, g, h2, -, h3⟩
      exact ⟨h1, g, h2, h3⟩
    clear hp
    go_enter Tryz.func5, Tryz.ntmps5
    go_wp2_with fail
    refine J0.out.mono ?_
    rintro e w1 ⟨rfl, b1⟩
    have B1 := hide b1
    have J := hide (JP.out w1 b1)
    clear b1 J0 JP
    go_wp2_with fail
    refine J.out.mono ?_
    rintro e w2 ⟨b2, g, rfl, hg⟩
    have B2 : Hid (Below W.heap.size W w2) := B1.out.trans (b2.mono B1.out.size)
    clear b2 J
    have J := hide (fault_some hg hne)
    have en := neq_nil g
    go_wp2_with fail
    refine J.out.mono ?_
    rintro e w3 ⟨rfl, b3⟩
    have B3 : Hid (Below W.heap.size W w3) := B2.out.trans (b3.mono B2.out.size)
    clear b3 J hg
    have k1 : (A : Int) ≤ (src.size : Int) := by omega
    have k2 : (0 : Int) ≤ (A : Int) := by omega
    have k3 : ((er : Int) != 0) = true := by rw [bne_iff_ne]; omega
    go_wp2_with fail
    go_ret
    exact ⟨by first | rfl | simp, B3.out⟩
  | ok T s =>
    obtain ⟨l, rfl, hOk, hsz⟩ := back_facts hp
    have JP : Hid (∀ w', Below W.heap.size W w' → Calls Tryz.prog 8 #[.string src] w' fun e w'' => Below w'.heap.size w' w'' ∧ ∃ g, e = .returned (.tuple #[.pointer (some ⟨g, 0, none⟩), .nilIface]) ∧ Nd (fun q => q < w''.heap.size) w'' (.mk 1 (bs []) 0 l 0) (.pointer (some ⟨g, 0, none⟩))) := fun w' hb => by
      have := parse_all src w' (HK.out.below hb)
      rw [hp] at this
      refine this.mono ?_
      rintro e w'' ⟨h1, v, h2, h3⟩
      obtain ⟨g, rfl⟩ := h3.ptr
      exact ⟨h1, g, h2, Nd.mono (fun q h => h.2) _ _ (Nd.tight _ _ h3)⟩
    obtain ⟨S, hS⟩ : ∃ X : ByteArray, X = ⟨(prPg 40000 l).toArray⟩ := ⟨_, rfl⟩
    have hSz : S.size = (prPg 40000 l).length := by
      rw [hS]
      show (prPg 40000 l).toArray.size = _
      simp
    have hln : (prPg 40000 l).length ≤ 200 * szs l := by
      obtain ⟨l', e', hm, -⟩ := hOk
      injection e' with _ _ _ e'
      subst e'
      exact ln_pg hm 40000
    have PR : Hid (∀ w' g l2, OkP wsB (.mk 1 (bs []) 0 l2 0) → sz (.mk 1 (bs []) 0 l2 0) ≤ 16003 → ers l2 = ers l → Below W.heap.size W w' → Nd (fun q => q < w'.heap.size) w' (.mk 1 (bs []) 0 l2 0) (.pointer (some ⟨g, 0, none⟩)) → Calls Tryz.prog 16 #[.pointer (some ⟨g, 0, none⟩)] w' fun e w'' => e = .returned (.string S) ∧ Below w'.heap.size w' w'') := fun w' g l2 h1 h2 h3 h4 h5 => by
      have := print_ok h1 h2 h5 (HK.out.below h4) (fun w'' h => HP.out w'' (h4.trans (h.mono h4.size)))
      rw [prPg_er h3, ← hS] at this
      exact this
    have P2 : Hid (S.size ≤ 8000 → ∀ w', Below W.heap.size W w' → Calls Tryz.prog 8 #[.string S] w' fun e w'' => Below w'.heap.size w' w'' ∧ ∃ g l2, e = .returned (.tuple #[.pointer (some ⟨g, 0, none⟩), .nilIface]) ∧ Nd (fun q => q < w''.heap.size) w'' (.mk 1 (bs []) 0 l2 0) (.pointer (some ⟨g, 0, none⟩)) ∧ OkP wsB (.mk 1 (bs []) 0 l2 0) ∧ sz (.mk 1 (bs []) 0 l2 0) ≤ 16003 ∧ ers l2 = ers l) := fun h8 w' hb => by
      rw [sz_mk] at hsz
      obtain ⟨T2, s2, e2, e3⟩ := back_plain (f := 40000) hOk (by omega) (by omega) (by omega)
      obtain ⟨l2, rfl, hOk2, hsz2⟩ := back_facts e2
      have := parse_all S w' (HK.out.below hb)
      rw [hS, e2, ← hS] at this
      refine this.mono ?_
      rintro e w'' ⟨h1, v, h2, h3⟩
      obtain ⟨g, rfl⟩ := h3.ptr
      rw [er_mk, er_mk] at e3
      injection e3 with _ _ _ e3 _
      exact ⟨h1, g, l2, h2, Nd.mono (fun q h => h.2) _ _ (Nd.tight _ _ h3), hOk2, hsz2, e3⟩
    have HOK := hide hOk
    have HSZ := hide hsz
    have hTL : S.toList = prPg 40000 l := by rw [hS]; simp
    have hem : S.toList = [] → l = [] := fun h0 => by
      cases l with
      | nil => rfl
      | cons x r =>
        exfalso
        obtain ⟨l', e', hm, -⟩ := hOk
        injection e' with _ _ _ e'
        subst e'
        have := pg_ne (r := r) (hm x (List.mem_cons_self ..)) 40000
        rw [hTL] at h0
        exact this h0
    have hSb : (S.size : Int) ≤ 9223372036854775807 := by
      rw [sz_mk] at hsz
      omega
    have HEM := hide hem
    clear hp hOk hsz hem hS hSz hln hTL
    go_enter Tryz.func5, Tryz.ntmps5
    go_wp2_with fail
    refine J0.out.mono ?_
    rintro e w1 ⟨rfl, b1⟩
    have B1 := hide b1
    have J := hide (JP.out w1 b1)
    clear b1 J0 JP
    go_wp2_with fail
    refine J.out.mono ?_
    rintro e w2 ⟨b2, g, rfl, hnd⟩
    have B2 : Hid (Below W.heap.size W w2) := B1.out.trans (b2.mono B1.out.size)
    have N2 := hide hnd
    have J2 := hide (PR.out w2 g l HOK.out HSZ.out rfl B2.out hnd)
    clear b2 J hnd
    go_wp2_with fail
    refine J2.out.mono ?_
    rintro e w3 ⟨rfl, b3⟩
    have B3 : Hid (Below W.heap.size W w3) := B2.out.trans (b3.mono B2.out.size)
    have N3 : Hid (Nd (fun q => q < w3.heap.size) w3 (.mk 1 (bs []) 0 l 0) (.pointer (some ⟨g, 0, none⟩))) := Nd.mono (fun q hq => Nat.lt_of_lt_of_le hq b3.size) _ _ (N2.out.below b3)
    clear b3 J2
    obtain ⟨g', ao, c, gl, gs, eg, ⟨-, d0, d1, d2, d3⟩, -, -⟩ := nd_open N3.out
    injection eg with eg
    injection eg with eg
    injection eg with eg _ _
    subst eg
    have hcase : (S.toList = [] ∧ l.length = 0) ∨ ¬ S.toList = [] := by
      by_cases he : S.toList = []
      · left
        refine ⟨he, ?_⟩
        rw [HEM.out he]
        rfl
      · exact .inr he
    clear d0 d1 d2
    by_cases h8 : S.size ≤ 8000
    · have J := hide (P2.out h8 w3 B3.out)
      have k8 : ¬ (8000 : Int) < (S.size : Int) := by omega
      have SE : Hid (∀ w4, Below w3.heap.size w3 w4 → ∀ g2 l2, Nd (fun q => q < w4.heap.size) w4 (.mk 1 (bs []) 0 l2 0) (.pointer (some ⟨g2, 0, none⟩)) → ers l2 = ers l → Calls Tryz.prog 17 #[.pointer (some ⟨g, 0, none⟩), .pointer (some ⟨g2, 0, none⟩)] w4 fun e w' => e = .returned (.bool true) ∧ Below w4.heap.size w4 w') := fun w4 b4 g2 l2 h2 he => by
        have hn : Nd (fun q => q < w4.heap.size) w4 (.mk 1 (bs []) 0 l 0) (pt g) := Nd.mono (fun q hq => Nat.lt_of_lt_of_le hq b4.size) _ _ (N3.out.below b4)
        exact same_er hn ⟨_, _, hn, h2, by rw [er_mk, er_mk, he]⟩ (by have := HSZ.out; omega)
      clear P2
      rcases hcase with ⟨he, hl0⟩ | he
      all_goals
        go_wp2_with fail
        refine J.out.mono ?_
        rintro e w4 ⟨b4, g2, l2, rfl, n4, ok2, sz2, e2⟩
        have B4 : Hid (Below W.heap.size W w4) := B3.out.trans (b4.mono B3.out.size)
        have JS := hide (SE.out w4 b4 g2 l2 n4 e2)
        have N4 := hide n4
        have OK2 := hide ok2
        have SZ2 := hide sz2
        have E2 := hide e2
        clear b4 J n4 ok2 sz2 e2 SE
        go_wp2_with fail
        refine JS.out.mono ?_
        rintro e w5 ⟨rfl, b5⟩
        have B5 : Hid (Below W.heap.size W w5) := B4.out.trans (b5.mono B4.out.size)
        have N5 : Hid (Nd (fun q => q < w5.heap.size) w5 (.mk 1 (bs []) 0 l2 0) (.pointer (some ⟨g2, 0, none⟩))) := Nd.mono (fun q hq => Nat.lt_of_lt_of_le hq b5.size) _ _ (N4.out.below b5)
        have JQ := hide (PR.out w5 g2 l2 OK2.out SZ2.out E2.out B5.out N5.out)
        clear b5 JS
        go_wp2_with fail
        refine JQ.out.mono ?_
        rintro e w6 ⟨rfl, b6⟩
        have B6 : Hid (Below W.heap.size W w6) := B5.out.trans (b6.mono B5.out.size)
        clear b6 JQ
        go_wp2_with fail
        go_ret
        exact ⟨by first | rfl | simp, B6.out⟩
    · have k8 : (8000 : Int) < (S.size : Int) := by omega
      clear P2
      rcases hcase with ⟨he, hl0⟩ | he
      all_goals
        go_wp2_with fail
        go_ret
        exact ⟨rfl, B3.out⟩
end Go.Proofs.YtmfoehaeejhlpaaGreatDoor
