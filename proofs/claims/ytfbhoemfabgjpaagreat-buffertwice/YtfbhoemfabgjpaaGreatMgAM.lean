import Derived.Test.YtfbhoemfabgjpaaGreatMgAL
import Derived.Test.YtfbhoemfabgjpaaGreatMgAJ
import Derived.Test.YtfbhoemfabgjpaaGreatMgAG
/-
  World: cloneKinds; New.
-/
namespace Go.Proofs.YtfbhoemfabgjpaaGreat
open Go.RowKit
set_option maxRecDepth 100000
/-- The clone under way: behind i rounds. -/
def Ck (w w1 W : World) (v : Value) (ks : List Kind) (L : List Kc) (i : Nat) : Prop :=
  L.length = ks.length ∧ (∀ j (h1 : j < L.length) (h2 : j < ks.length), L[j].1 = ks[j].1 ∧ (j < i → W.ownsRow w1.heap.size 9 1 (kcV L[j]) ks[j].2.length (sz ks[j].2))) ∧ W.ownsRow w.heap.size 67 2 v ks.length (kz L) ∧ Below w.heap.size w W ∧ w1.heap.size ≤ W.heap.size ∧ w.heap.size ≤ w1.heap.size ∧ ∀ k, v.ownBlock = some k → k < w1.heap.size
theorem Ck.turn {w w1 W W2 : World} {g c : Nat} {ks : List Kind} {L : List Kc} {i : Nat} (h : Ck w w1 W (.slice (some ⟨g, 0, none⟩) ks.length c) ks L i) (hi : i < ks.length) (hb : Below W.heap.size W W2) {a2 : Option Addr} {n2 c2 : Nat} (ho : W2.ownsRow W.heap.size 9 1 (.slice a2 n2 c2) ks[i].2.length (sz ks[i].2)) :
    (W2.cell? ⟨g, i * 2 + 1, none⟩ = some (kcV (L[i]'(by rw [h.1]; exact hi))) ∧ W2.frozen? ⟨g, i * 2 + 1, none⟩ = false) ∧ ∃ L', Ck w w1 (W2.setCell ⟨g, i * 2 + 1, none⟩ (.slice a2 n2 c2)) (.slice (some ⟨g, 0, none⟩) ks.length c) ks L' (i + 1) := by
  obtain ⟨h1, h2, h3, h4, h5, h6, h7⟩ := h
  have hL : i < L.length := by omega
  have h3' := own_later h3 hb
  have hg := h7 g rfl
  refine ⟨⟨by rw [h3'.cellAt (i * 2 + 1) (by omega)]; exact (kz_at L i hL).2, h3'.frozenAt _⟩, L.set i (L[i].1, a2, n2, c2), by rw [List.length_set]; exact h1, fun j j1 j2 => ?_, ?_, ?_, ?_, h6, h7⟩
  · rw [List.length_set] at j1
    obtain ⟨k1, k2⟩ := h2 j j1 j2
    by_cases e : i = j
    · subst e
      rw [List.getElem_set_self]
      refine ⟨k1, fun _ => own_set (own_lower ho h5) (fun e' => ?_)⟩
      have := (ho.lt g e').1
      omega
    · rw [List.getElem_set_ne e]
      refine ⟨k1, fun hj => own_set (own_later (k2 (by omega)) hb) (fun e' => ?_)⟩
      have := ((k2 (by omega)).lt g e').1
      omega
  · have := (h3'.stored (i * 2 + 1) (.slice a2 n2 c2)).1
    rw [show (Value.slice a2 n2 c2) = .slice (a2, n2, c2).1 (a2, n2, c2).2.1 (a2, n2, c2).2.2 from rfl, kz_set L i (a2, n2, c2) hL] at this
    exact this
  · have := (h3.lt g rfl).1
    exact (below_on h4 hb).grown (grown_set _ _ _ _) (by have := hb.size; have := h4.size; omega) (fun k e => by cases e; omega)
  · have := (grown_set W2 g (i * 2 + 1) (.slice a2 n2 c2)).size
    have := hb.size
    omega
/-- Kinds in memory of their own. -/
def Ko (B : Nat) (w : World) (v : Value) (ks : List Kind) : Prop := ∃ L, w.ownsRow B 67 2 v ks.length (kz L) ∧ L.length = ks.length ∧ ∀ i (h1 : i < L.length) (h2 : i < ks.length), L[i].1 = ks[i].1 ∧ w.ownsRow B 9 1 (kcV L[i]) ks[i].2.length (sz ks[i].2)
theorem Ck.fin {w w1 W : World} {v : Value} {ks : List Kind} {L : List Kc} (h : Ck w w1 W v ks L ks.length) : Ko w.heap.size W v ks ∧ Below w.heap.size w W := by
  obtain ⟨h1, h2, h3, h4, h5, h6, h7⟩ := h
  exact ⟨⟨L, h3, h1, fun i i1 i2 => ⟨(h2 i i1 i2).1, own_lower ((h2 i i1 i2).2 i2) h6⟩⟩, h4⟩
theorem Ko.kr {B : Nat} {w : World} {v : Value} {ks : List Kind} (h : Ko B w v ks) : Kr w v ks := by
  obtain ⟨L, h1, h2, h3⟩ := h
  rcases h1.2 with ⟨rfl, hl⟩ | ⟨g, c, cur, rfl, -, hg, e1, e2, hcs, htake⟩
  · have : ks.length = 0 := hl
    exact ⟨none, 0, by rw [this], by omega, Nat.zero_le _, fun j hj => absurd hj (by omega)⟩
  · refine ⟨_, c, rfl, e1, e2, fun i hi => ⟨g, 0, kcV (L[i]'(by omega)), rfl, ?_, ?_, ?_⟩⟩
    · rw [Nat.zero_add, h1.cellAt (i * 2) (by omega), (kz_at L i (by omega)).1, (h3 i (by omega) hi).1]
    · rw [Nat.zero_add, h1.cellAt (i * 2 + 1) (by omega), (kz_at L i (by omega)).2]
    · exact Sr.own (h3 i (by omega) hi).2
theorem Ko.same {B : Nat} {w w' : World} {v : Value} {ks : List Kind} (h : Ko B w v ks) (hs : ∀ k, B ≤ k → k < w.heap.size → w'.heap[k]? = w.heap[k]?) : Ko B w' v ks := by
  have key : ∀ {e s n : Nat} {v : Value} {xs : List Value}, w.ownsRow B e s v n xs → w'.ownsRow B e s v n xs := fun {e s n v xs} hr => by
    have hlt := hr.lt
    obtain ⟨a1, a2⟩ := hr
    refine ⟨a1, ?_⟩
    rcases a2 with a2 | ⟨g, c, cur, rfl, b1, b2, b3⟩
    · exact .inl a2
    · have := hlt g rfl
      exact .inr ⟨g, c, cur, rfl, b1, (hs g this.1 this.2).trans b2, b3⟩
  obtain ⟨L, h1, h2, h3⟩ := h
  exact ⟨L, key h1, h2, fun i i1 i2 => ⟨(h3 i i1 i2).1, key (h3 i i1 i2).2⟩⟩
set_option maxHeartbeats 4000000 in
theorem clone_kinds {w : World} {v : Value} {ks : List Kind} (h : Kr w v ks) (hn : ks.length ≤ 1000) (hf : ∀ k ∈ ks, k.2.length ≤ 1000) :
    Calls Tryz.prog 16 #[v] w fun e w' => ∃ v', e = .returned v' ∧ Ko w.heap.size w' v' ks ∧ Below w.heap.size w w' := by
  have HK := hide h
  obtain ⟨L0, hkl, hlen, hsr⟩ := h.kl
  have JC := hide (clone_kl v L0 w hkl (by omega))
  have HN : Hid (L0.length = ks.length) := hlen
  have HR : Hid (∀ i (h1 : i < L0.length) (h2 : i < ks.length), L0[i].1 = ks[i].1) := fun i h1 h2 => (hsr i h1 h2).1
  clear hsr hkl
  obtain ⟨ao, c, rfl, h1, h2, h3⟩ := h
  have hbig : c ≤ 9223372036854775807 := by unfold maxLen at h2; omega
  have HF := hide hf
  clear h3 h2 hf hlen
  go_enter Tryz.func16, Tryz.ntmps16
  go_wp2_with fail
  refine JC.out.mono ?_
  rintro e w1 ⟨v', rfl, ho, hb⟩
  rw [HN.out] at ho
  have hlt := ho.lt
  have hbs := hb.size
  obtain ⟨a', c', rfl⟩ := own_len ho
  have H0 : Hid (∃ L, Ck w w1 w1 (.slice a' ks.length c') ks L 0) := ⟨L0, HN.out, fun j j1 j2 => ⟨HR.out j j1 j2, fun e => absurd e (by omega)⟩, ho, hb, Nat.le_refl _, hb.size, fun k e => (hlt k e).2⟩
  have hc' := (own_cap ho)
  clear ho hlt HR JC hb HN
  go_wp2_with fail
  go_loopw [10] (fun v10 W => ∃ i : Nat, i ≤ ks.length ∧ v10 = .int .i64 (i : Int) ∧ Hid (∃ L, Ck w w1 W (.slice a' ks.length c') ks L i)) (fun v10 _ => ks.length - (intOf v10).toNat)
  case atStart => exact ⟨0, Nat.zero_le _, rfl, H0⟩
  case round =>
    obtain ⟨i, hil, rfl, HC⟩ := hrel
    by_cases hlt : i < ks.length
    · have t1 : (i : Int) < (ks.length : Int) := by omega
      have t2 : (0 : Int) ≤ (i : Int) := by omega
      obtain ⟨L, hC⟩ := HC.out
      obtain ⟨ao2, c2, e2, -, -, h3⟩ := HK.out.later hC.2.2.2.1
      simp only [Value.slice.injEq, true_and] at e2
      obtain ⟨rfl, rfl⟩ := e2
      obtain ⟨g, o, vf, rfl, y1, y2, y3⟩ := h3 i hlt
      obtain ⟨g', c3, e3, -, -⟩ := own_form hC.2.2.1 (by omega)
      simp only [Value.slice.injEq, true_and] at e3
      obtain ⟨rfl, rfl⟩ := e3
      have hfl := HF.out _ (List.getElem_mem hlt)
      have HT : Hid (∀ (W2 : World), Below (wr.alloc (.cells #[.string ks[i].1, vf] 67)).heap.size (wr.alloc (.cells #[.string ks[i].1, vf] 67)) W2 → ∀ a2 n2 c2, W2.ownsRow (wr.alloc (.cells #[.string ks[i].1, vf] 67)).heap.size 9 1 (.slice a2 n2 c2) ks[i].2.length (sz ks[i].2) → (W2.cell? ⟨g', i * 2 + 1, none⟩ = some (kcV (L[i]'(by rw [hC.1]; exact hlt))) ∧ W2.frozen? ⟨g', i * 2 + 1, none⟩ = false) ∧ ∃ L', Ck w w1 (W2.setCell ⟨g', i * 2 + 1, none⟩ (.slice a2 n2 c2)) (.slice (some ⟨g', 0, none⟩) ks.length c') ks L' (i + 1)) := fun W2 hb2 a2 n2 c2 ho => hC.turn hlt (below_on (below_alloc wr _) hb2) (own_lower ho (by simp))
      have JT : Hid (Calls Tryz.prog 32 #[vf] (wr.alloc (.cells #[.string ks[i].1, vf] 67)) fun e w' => ∃ v', e = .returned v' ∧ w'.ownsRow (wr.alloc (.cells #[.string ks[i].1, vf] 67)).heap.size 9 1 v' ks[i].2.length (sz ks[i].2) ∧ Below (wr.alloc (.cells #[.string ks[i].1, vf] 67)).heap.size (wr.alloc (.cells #[.string ks[i].1, vf] 67)) w') := clone_texts vf _ _ (y3.on (fun a x e => ((below_alloc wr _).cell (p := a) (World.block_lt_of_cell? wr _ e)).trans e)) (by omega)
      generalize L[i]'(by rw [hC.1]; exact hlt) = li at *
      clear hC HC h3 hfl
      generalize ks[i] = kd at *
      obtain ⟨nm, fs⟩ := kd
      obtain ⟨af, cf, rfl, -⟩ := y3
      dsimp only at y1 y2 HT JT
      go_wp2_with fail
      refine JT.out.mono ?_
      rintro e w2 ⟨v2, rfl, ho2, hb2⟩
      obtain ⟨a2, c2, rfl⟩ := own_len ho2
      obtain ⟨⟨z1, z2⟩, hz⟩ := HT.out w2 hb2 _ _ _ ho2
      have HZ := hide hz
      clear hz HT JT ho2 hb2
      go_wp2_with fail
      go_roundw
      case rel => exact ⟨i + 1, by omega, by go_num, HZ⟩
      case measure => simp [intOf]; omega
    · obtain rfl : i = ks.length := by omega
      have t1 : ¬ (ks.length : Int) < (ks.length : Int) := by omega
      obtain ⟨L, hC⟩ := HC.out
      have HE := hide hC.fin
      clear hC HC
      go_wp2_with fail
      go_ret
      exact ⟨_, rfl, HE.out.1, HE.out.2⟩
/-- A world of nobody. -/
theorem wx_made {w w3 : World} {g0 B2 : Nat} {vk : Value} {ks : List Kind} (hp : Pl w3 (fun k => k = g0) g0 200 [] []) (hg : g0 < B2) (hk : Ko B2 w3 vk ks) (hB : w.heap.size ≤ g0) (hB2 : B2 ≤ w3.heap.size) (T : Nat → Ts) :
    ∃ own : Nat → Nat, (∀ k, k < w.heap.size → own k = 0) ∧ Wx 0 (((w3.alloc (.map #[] 0)).alloc (.map #[] 0)).alloc (.cells #[vk, .pointer (some ⟨g0, 0, none⟩), .map (some w3.heap.size), .map (some (w3.heap.size + 1))] 64)) own (w3.heap.size + 1 + 1) vk g0 w3.heap.size (w3.heap.size + 1) 0 ks [] [] (fun _ => none) (fun _ => none) T := by
  obtain ⟨o3, ho3⟩ : ∃ X, X = Obj.cells #[vk, .pointer (some ⟨g0, 0, none⟩), .map (some w3.heap.size), .map (some (w3.heap.size + 1))] 64 (0, 0) := ⟨_, rfl⟩
  rw [← ho3]
  obtain ⟨n1, n2, n3⟩ : ((((w3.alloc (.map #[] 0)).alloc (.map #[] 0)).alloc o3).heap[w3.heap.size]? = some (.map #[] 0)) ∧ ((((w3.alloc (.map #[] 0)).alloc (.map #[] 0)).alloc o3).heap[w3.heap.size + 1]? = some (.map #[] 0)) ∧ ((((w3.alloc (.map #[] 0)).alloc (.map #[] 0)).alloc o3).heap[w3.heap.size + 1 + 1]? = some o3) := by
    refine ⟨?_, ?_, ?_⟩
    · have b1 := below_alloc (w3.alloc (.map #[] 0)) (.map #[] 0)
      have b2 := below_alloc ((w3.alloc (.map #[] 0)).alloc (.map #[] 0)) o3
      exact (b2.block _ (by simp; omega)).trans ((b1.block _ (by simp)).trans (heap_alloc_new w3 _))
    · have b2 := below_alloc ((w3.alloc (.map #[] 0)).alloc (.map #[] 0)) o3
      refine (b2.block _ (by simp)).trans ?_
      have := heap_alloc_new (w3.alloc (.map #[] 0)) (.map #[] 0)
      simpa using this
    · have := heap_alloc_new ((w3.alloc (.map #[] 0)).alloc (.map #[] 0)) o3
      simpa using this
  have hb : Below w3.heap.size w3 (((w3.alloc (.map #[] 0)).alloc (.map #[] 0)).alloc o3) := below_on (below_on (below_alloc w3 _) (below_alloc _ _)) (below_alloc _ _)
  have hsz : (((w3.alloc (.map #[] 0)).alloc (.map #[] 0)).alloc o3).heap.size = w3.heap.size + 3 := by simp
  generalize ((w3.alloc (.map #[] 0)).alloc (.map #[] 0)).alloc o3 = W at *
  refine ⟨fun k => if k < B2 then (if k = g0 then 3 else 0) else if k = w3.heap.size then 4 else if k = w3.heap.size + 1 then 5 else if k = w3.heap.size + 1 + 1 then 1 else 2, fun k hk => ?_, ⟨?_, ?_, ?_⟩, ⟨by omega, by omega⟩, ?_, ?_, fun _ => ?_, fun _ => ?_, fun _ => ?_, fun s g h => by cases h⟩
  · dsimp only
    rw [if_pos (by omega), if_neg (by omega)]
  · dsimp only
    rw [if_neg (by omega), if_neg (by omega), if_neg (by omega), if_pos rfl]
  · dsimp only
    rw [if_neg (by omega), if_pos rfl]
  · dsimp only
    rw [if_neg (by omega), if_neg (by omega), if_pos rfl]
  · rw [Wc, n3, ho3]
  · intro w' hw'
    refine Ko.kr (hk.same (w' := w') (fun k k1 k2 => ?_))
    refine (hw' k ⟨by omega, ?_⟩).trans (hb.block k k2)
    dsimp only
    rw [if_neg (by omega), if_neg (by omega), if_neg (by omega), if_neg (by omega)]
  · refine (hp.later hb).mono (fun k e => ?_)
    subst e
    refine ⟨by omega, ?_⟩
    dsimp only
    rw [if_pos hg, if_pos rfl]
  · exact (Mp.made w3).same (n1.trans (heap_alloc_new w3 _).symm)
  · have e : (w3.alloc (.map #[] 0)).heap.size = w3.heap.size + 1 := by simp
    have h1 := Mq.made (w3.alloc (.map #[] 0))
    have h2 := heap_alloc_new (w3.alloc (.map #[] 0)) (.map #[] 0)
    rw [e] at h1 h2
    exact h1.same (n2.trans h2.symm)
set_option maxHeartbeats 4000000 in
theorem wnew_bad {w : World} {v : Value} {ks : List Kind} (h : Kr w v ks) (hm : ¬ mayB ks) :
    Calls Tryz.prog 6 #[v] w fun e w' => e = .returned (.tuple #[.pointer none, .int .i64 65]) ∧ Below w.heap.size w w' := by
  have JM : Hid (Calls Tryz.prog 14 #[v] w fun e w' => e = .returned (.bool false) ∧ Below w.heap.size w w') := (maybe_any h).mono (fun _e _w' ⟨⟨b, k1, k2⟩, k3⟩ => ⟨by
    rw [k1]
    cases b with
    | true => exact absurd (k2.1 rfl) hm
    | false => rfl, k3⟩)
  obtain ⟨ao, c, rfl, -⟩ := h
  clear hm
  go_enter Tryz.func6, Tryz.ntmps6
  go_wp2_with fail
  refine JM.out.mono ?_
  rintro e w1 ⟨rfl, hb⟩
  have HB := hide hb
  clear hb JM
  go_wp2_with fail
  go_ret2
  exact ⟨rfl, HB.out⟩
set_option maxHeartbeats 4000000 in
theorem wnew_any {w : World} {v : Value} {ks : List Kind} (h : Kr w v ks) (hm : mayB ks) (T : Nat → Ts) :
    Calls Tryz.prog 6 #[v] w fun e w' => ∃ gw, e = .returned (.tuple #[.pointer (some ⟨gw, 0, none⟩), .int .i64 0]) ∧ (∃ own vk gp gm gt, (∀ k, k < w.heap.size → own k = 0) ∧ Wx 0 w' own gw vk gp gm gt 0 ks [] [] (fun _ => none) (fun _ => none) T) ∧ Below w.heap.size w w' := by
  have JM : Hid (Calls Tryz.prog 14 #[v] w fun e w' => e = .returned (.bool true) ∧ Below w.heap.size w w') := (maybe_any h).mono (fun _e _w' ⟨⟨b, k1, k2⟩, k3⟩ => ⟨by rw [k1, k2.2 hm], k3⟩)
  have JK : Hid (∀ W, Below w.heap.size w W → Calls Tryz.prog 16 #[v] W fun e w' => ∃ v', e = .returned v' ∧ Ko W.heap.size w' v' ks ∧ Below W.heap.size W w') := fun W hW => clone_kinds (h.later hW) (by have := hm.2.1; omega) (fun k hk => by have := (hm.2.2.1 k hk).1; omega)
  have JP : Hid (∀ W : World, Calls Tryz.prog 15 #[.int .i64 200] W fun e w' => e = .returned (.tuple #[.pointer (some ⟨W.heap.size, 0, none⟩), .int .i64 0]) ∧ Pl w' (fun k => k = W.heap.size) W.heap.size 200 [] [] ∧ Below W.heap.size W w') := fun W => i_new_any 200 W (by omega) (by omega)
  have hmm := @run_makeMap Tryz.prog
  obtain ⟨ao, c, rfl, -⟩ := h
  clear hm
  go_enter Tryz.func6, Tryz.ntmps6
  go_wp2_with fail
  refine JM.out.mono ?_
  rintro e w1 ⟨rfl, hb⟩
  have HB1 := hide hb
  clear hb JM
  go_wp2_with fail
  refine (JP.out _).mono ?_
  rintro e w2 ⟨rfl, hp, hb⟩
  have HB2 := hide hb
  have HP := hide hp
  clear hp hb JP
  go_wp2_with fail
  refine (JK.out _ (below_on HB1.out HB2.out)).mono ?_
  rintro e w3 ⟨vk, rfl, hk, hb⟩
  have HB3 := hide hb
  have HKo := hide hk
  clear hb JK
  obtain ⟨L, hk, -⟩ := hk
  obtain ⟨ak, ck, rfl⟩ := own_len hk
  clear hk
  go_wp2_with fail
  go_ret2
  have hlt : w1.heap.size < w2.heap.size := by
    obtain ⟨⟨vg, vl, vf, hpm, -⟩, -⟩ := HP.out
    exact hpm.lt
  obtain ⟨own, o1, o2⟩ := wx_made (w := w) (HP.out.later HB3.out) hlt HKo.out HB1.out.size HB3.out.size T
  refine ⟨_, rfl, ⟨own, _, _, _, _, o1, o2⟩, ?_⟩
  exact below_on (below_on (below_on HB1.out HB2.out) HB3.out) (below_on (below_on (below_alloc w3 _) (below_alloc _ _)) (below_alloc _ _))
end Go.Proofs.YtfbhoemfabgjpaaGreat

/-
  Buffer: slices.Clone of numbers and of parts, of any length that there may be; parts as they are read, with their numbers.
-/
namespace Go.Proofs.YtfbhoemfabgjpaaGreat
open Go.RowKit
set_option maxRecDepth 100000
set_option maxHeartbeats 1000000 in
theorem clone_nums2 (v : Value) (l : List Int) (w : World) (h : Iz w v l) (hn : l.length * 8 ≤ 140737488355328) :
    Calls Tryz.prog 33 #[v] w fun e w' => ∃ v', e = .returned v' ∧ w'.ownsRow w.heap.size 2 1 v' l.length (zc l) ∧ Below w.heap.size w w' := by
  obtain ⟨i0, hi, hz0, hz1, hz2⟩ := info_parts info2
  have q27 : ∀ (w : World) (a : Option Addr) (n c n' c' : Nat), (binOp .eql 35 (.slice a n c) (.slice none n' c')).run Tryz.prog w = .ok (.bool a.isNone) w := fun w a n c n' c' => Lib.run_eql_slice_nil w _ _ a n c n' c' Tryz.underlying35
  obtain ⟨ao, c, rfl, h1, h2, h3⟩ := h
  cases ao with
  | none =>
    obtain rfl : l = [] := by
      cases l with
      | nil => rfl
      | cons x t =>
        obtain ⟨g, o, e, -⟩ := h3 0 (by simp)
        cases e
    clear h3
    go_enter Tryz.func33, Tryz.ntmps33
    go_wp2_with fail
    go_ret
    exact ⟨_, rfl, World.ownsRow_nil _ _ _ _, Below.refl _ _⟩
  | some ad =>
    have H : Hid (∀ j u, (zc l)[j]? = some u → (w.alloc (.cells #[] 2)).cell? (ad.add j) = some u) := fun j u hj => by
      have hj2 : j < l.length := by
        have := (List.getElem?_eq_some_iff.1 hj).1
        rwa [zc_len] at this
      rw [zc_at l j hj2] at hj
      obtain ⟨g', o', e3, z4⟩ := h3 j hj2
      obtain rfl := Option.some.inj e3
      rw [add_at, ← Option.some.inj hj]
      exact ((below_alloc w _).cell (p := ⟨g', o' + j, none⟩) (World.block_lt_of_cell? w _ z4)).trans z4
    clear h3
    go_enter Tryz.func33, Tryz.ntmps33
    go_wp2_with (at_builtin; refine wpList_append_own_at _ rfl _ _ 35 rfl w.heap.size 2 i0 (.int .i64 0) 1 8 Tryz.underlying35 hi hz0 hz1 hz2 rfl (by decide) _ 0 [] rfl (World.ownsRow_lit w #[] 0 (Nat.le_refl _) (Nat.zero_le _) rfl) ad l.length c (zc l) rfl (by rw [zc_len]; omega) H.out (zc_one l) (by unfold maxLen; omega) (by omega) (by simp) ?_)
    intro v' w' ho hg _ _
    obtain ⟨ao, c, rfl⟩ := own_len ho
    have HO := hide ho
    have HG := hide hg
    clear ho hg
    go_wp2_with fail
    go_ret
    refine ⟨_, rfl, ?_, (below_alloc w _).grown HG.out (by simp) (fun k e => ?_)⟩
    · have := HO.out
      simpa using this
    · simp [Value.ownBlock] at e
      omega
/-- Parts that are read, wherever they lie. -/
def Pp (w : World) (v : Value) (l : List Pt) : Prop :=
  ∃ ao c, v = .slice ao l.length c ∧ l.length ≤ c ∧ c ≤ maxLen ∧ ∀ j (hj : j < l.length), ∃ g o, ao = some ⟨g, o, none⟩ ∧ w.cell? ⟨g, o + j * 2, none⟩ = some (.int .i64 l[j].1) ∧ w.cell? ⟨g, o + j * 2 + 1, none⟩ = some (ptV l[j])
theorem Pp.frame {w w' : World} {v : Value} {l : List Pt} {S : Nat → Prop} (h : Pp w v l) (hm : Mv w w' S) (hs : ∀ k, v.ownBlock = some k → ¬ S k) : Pp w' v l := by
  obtain ⟨ao, c, rfl, h1, h2, h3⟩ := h
  refine ⟨ao, c, rfl, h1, h2, fun j hj => ?_⟩
  obtain ⟨g, o, rfl, c0, c1⟩ := h3 j hj
  exact ⟨g, o, rfl, hm.cell c0 (hs g rfl), hm.cell c1 (hs g rfl)⟩
theorem Pp.later {w w' : World} {v : Value} {l : List Pt} (h : Pp w v l) (hb : Below w.heap.size w w') : Pp w' v l := h.frame (Mv.of_below hb (fun _ => False)) (fun _ _ e => e)
theorem Pp.own {w : World} {v : Value} {l : List Pt} {B : Nat} (h : w.ownsRow B 51 2 v l.length (pz l)) : Pp w v l := by
  rcases h.2 with ⟨rfl, hl⟩ | ⟨g, c, cur, rfl, -, hg, h1, h2, hcs, htake⟩
  · obtain rfl := List.eq_nil_of_length_eq_zero hl
    exact ⟨none, 0, rfl, Nat.le_refl _, Nat.zero_le _, fun j hj => absurd hj (by simp)⟩
  · refine ⟨_, c, rfl, h1, h2, fun j hj => ⟨g, 0, rfl, ?_⟩⟩
    obtain ⟨c0, c1⟩ := own_part h j hj
    rw [Nat.zero_add]
    exact ⟨c0, c1⟩
set_option maxHeartbeats 1000000 in
theorem clone_parts2 (v : Value) (l : List Pt) (w : World) (h : Pp w v l) (hn : l.length * 32 ≤ 140737488355328) :
    Calls Tryz.prog 34 #[v] w fun e w' => ∃ v', e = .returned v' ∧ w'.ownsRow w.heap.size 51 2 v' l.length (pz l) ∧ Below w.heap.size w w' := by
  obtain ⟨i0, hi, hz0, hz1, hz2⟩ := info_parts infoP
  have q72 : ∀ (w : World) (a : Option Addr) (n c n' c' : Nat), (binOp .eql 36 (.slice a n c) (.slice none n' c')).run Tryz.prog w = .ok (.bool a.isNone) w := fun w a n c n' c' => Lib.run_eql_slice_nil w _ _ a n c n' c' Tryz.underlying36
  obtain ⟨ao, cap, rfl, h1, h2, h3⟩ := h
  cases ao with
  | none =>
    obtain rfl : l = [] := by
      cases l with
      | nil => rfl
      | cons x t =>
        obtain ⟨g, o, e, -⟩ := h3 0 (by simp)
        cases e
    clear h3
    go_enter Tryz.func34, Tryz.ntmps34
    go_wp2_with fail
    go_ret
    exact ⟨_, rfl, World.ownsRow_nil _ _ _ _, Below.refl _ _⟩
  | some ad =>
    have H : Hid (∀ j u, (pz l)[j]? = some u → (w.alloc (.cells #[] 51)).cell? (ad.add j) = some u) := fun j u hj => by
      have hj2 : j < l.length * 2 := by
        have := (List.getElem?_eq_some_iff.1 hj).1
        rwa [pz_len] at this
      obtain ⟨g', o', e3, z3, z4⟩ := h3 (j / 2) (by omega)
      obtain ⟨p0, p1⟩ := pz_at l (j / 2) (by omega)
      obtain rfl := Option.some.inj e3
      rw [add_at]
      rcases Nat.mod_two_eq_zero_or_one j with hm | hm
      · have ej : j = j / 2 * 2 := by omega
        rw [← ej] at p0 z3
        rw [p0] at hj
        rw [← Option.some.inj hj]
        exact ((below_alloc w _).cell (p := ⟨g', o' + j, none⟩) (World.block_lt_of_cell? w _ z3)).trans z3
      · have ej : j = j / 2 * 2 + 1 := by omega
        rw [← ej] at p1
        rw [p1] at hj
        rw [← Option.some.inj hj]
        have ez : o' + j / 2 * 2 + 1 = o' + j := by omega
        rw [ez] at z4
        exact ((below_alloc w _).cell (p := ⟨g', o' + j, none⟩) (World.block_lt_of_cell? w _ z4)).trans z4
    clear h3
    go_enter Tryz.func34, Tryz.ntmps34
    go_wp2_with (at_builtin; refine wpList_append_own_at _ rfl _ _ 36 rfl w.heap.size 51 i0 (.agg #[.int .i64 0, .slice none 0 0]) 2 32 Tryz.underlying36 hi hz0 hz1 hz2 rfl (by decide) _ 0 [] rfl (World.ownsRow_lit w #[] 0 (Nat.le_refl _) (Nat.zero_le _) rfl) ad l.length cap (pz l) rfl (by rw [pz_len]) H.out (pz_one l) (by unfold maxLen; omega) (by omega) (by simp) ?_)
    intro v' w' ho hg _ _
    obtain ⟨ao, c, rfl⟩ := own_len ho
    have HO := hide ho
    have HG := hide hg
    clear ho hg
    go_wp2_with fail
    go_ret
    refine ⟨_, rfl, ?_, (below_alloc w _).grown HG.out (by simp) (fun k e => ?_)⟩
    · have := HO.out
      simpa using this
    · simp [Value.ownBlock] at e
      omega
end Go.Proofs.YtfbhoemfabgjpaaGreat

/-
  Buffer: a command of any kind, cloned.
-/
namespace Go.Proofs.YtfbhoemfabgjpaaGreat
open Go.RowKit
set_option maxRecDepth 100000
/-- A command: its numbers, where its lists lie, what these hold. -/
structure Cm where
  op : Int
  ix : Int
  gn : Int
  kd : Int
  vs : Value
  ps : Value
  V : List Int
  P : List (Int × List Int)
def cmL (c : Cm) : List Value := [.int .i64 c.op, .int .i64 c.ix, .int .i64 c.gn, .int .i64 c.kd, c.vs, c.ps]
def cmV (c : Cm) : Value := .agg (cmL c).toArray
theorem results_cell1 {fn : Func} {p : Tmp} {ty : TypeId} (h : fn.results = #[.cell p ty]) (tmps : Array Value) (P : Program) (w : World) :
    (results fn tmps).run P w = ((asAddr (tmps.getD p undef)).run P w).andThen fun a w₁ => (loadVar ty a).run P w₁ := by
  simp only [results, h]
  simp [Sem.run_bind, Result.andThen]
/-- What may be cloned: no list is longer than a list can be. -/
def Fit (c : Cm) : Prop := c.V.length * 8 ≤ 140737488355328 ∧ c.P.length * 32 ≤ 140737488355328 ∧ (∀ p ∈ c.P, p.2.length * 8 ≤ 140737488355328) ∧ (∀ x ∈ c.V, -9223372036854775808 ≤ x ∧ x ≤ 9223372036854775807) ∧ (∀ p ∈ c.P, ∀ x ∈ p.2, -9223372036854775808 ≤ x ∧ x ≤ 9223372036854775807) ∧ InB (c.ix, c.gn)
/-- A list that is none, or lies at a place of a block. -/
def Plain (v : Value) : Prop := v = .slice none 0 0 ∨ ∃ g o n c, v = .slice (some ⟨g, o, none⟩) n c
theorem own_plain {w : World} {B e s n : Nat} {v : Value} {xs : List Value} (h : w.ownsRow B e s v n xs) : Plain v := by
  rcases h.2 with ⟨rfl, -⟩ | ⟨g, c, cur, rfl, -⟩
  · exact .inl rfl
  · exact .inr ⟨g, 0, n, c, rfl⟩
/-- Parts, with their numbers, in blocks of U; b: plain ones. -/
def PsOk (b : Prop) (w : World) (U : Nat → Prop) (v : Value) (P : List (Int × List Int)) : Prop :=
  ∃ l : List Pt, Pp w v l ∧ l.length = P.length ∧ (∀ j, v.ownBlock = some j → U j) ∧ (∀ i (h1 : i < l.length) (h2 : i < P.length), l[i].1 = P[i].1 ∧ Iz w (ptV l[i]) P[i].2 ∧ ∀ j, (ptV l[i]).ownBlock = some j → U j) ∧ (b → Plain v ∧ ∀ i (h1 : i < l.length), Plain (ptV l[i]))
/-- A command that is read, in blocks of U; b: of plain lists. -/
def CmOk (b : Prop) (w : World) (U : Nat → Prop) (c : Cm) : Prop := (Iz w c.vs c.V ∧ ∀ j, c.vs.ownBlock = some j → U j) ∧ PsOk b w U c.ps c.P ∧ Fit c ∧ (b → Plain c.vs)
section
variable {b : Prop} {w w' : World} {U R : Nat → Prop}
theorem PsOk.frame {v : Value} {P : List (Int × List Int)} (h : PsOk b w U v P) (hm : Mv w w' R) (hs : ∀ j, U j → ¬ R j) : PsOk b w' U v P := by
  obtain ⟨l, h1, h2, h3, h4, h5⟩ := h
  refine ⟨l, h1.frame hm (fun k e => hs k (h3 k e)), h2, h3, fun i i1 i2 => ?_, h5⟩
  obtain ⟨a, b, c⟩ := h4 i i1 i2
  exact ⟨a, b.frame hm (fun k e => hs k (c k e)), c⟩
theorem PsOk.wide {v : Value} {P : List (Int × List Int)} (h : PsOk b w U v P) (hs : ∀ j, U j → R j) : PsOk b w R v P := by
  obtain ⟨l, h1, h2, h3, h4, h5⟩ := h
  exact ⟨l, h1, h2, fun j e => hs j (h3 j e), fun i i1 i2 => ⟨(h4 i i1 i2).1, (h4 i i1 i2).2.1, fun j e => hs j ((h4 i i1 i2).2.2 j e)⟩, h5⟩
theorem CmOk.frame {c : Cm} (h : CmOk b w U c) (hm : Mv w w' R) (hs : ∀ j, U j → ¬ R j) : CmOk b w' U c := ⟨⟨h.1.1.frame hm (fun k e => hs k (h.1.2 k e)), h.1.2⟩, h.2.1.frame hm hs, h.2.2⟩
theorem CmOk.wide {c : Cm} (h : CmOk b w U c) (hs : ∀ j, U j → R j) : CmOk b w R c := ⟨⟨h.1.1, fun j e => hs j (h.1.2 j e)⟩, h.2.1.wide hs, h.2.2⟩
theorem CmOk.at {c : Cm} (h : CmOk b w U c) : ∃ va vc pa pc, c = ⟨c.op, c.ix, c.gn, c.kd, .slice va c.V.length vc, .slice pa c.P.length pc, c.V, c.P⟩ := by
  obtain ⟨⟨⟨va, vc, e1, -⟩, -⟩, ⟨l, ⟨pa, pc, e2, -⟩, e3, -⟩, -⟩ := h
  refine ⟨va, vc, pa, pc, ?_⟩
  rw [e3] at e2
  rw [← e1, ← e2]
theorem CmOk.at2 {c : Cm} (h : CmOk b w U c) : ∃ qa qn qc pa pn pc, c.vs = .slice qa qn qc ∧ c.ps = .slice pa pn pc := by
  obtain ⟨⟨⟨va, vc, e1, -⟩, -⟩, ⟨l, ⟨pa, pc, e2, -⟩, -⟩, -⟩ := h
  exact ⟨_, _, _, _, _, _, e1, e2⟩
end
theorem xz_set : ∀ (l : List Pt) (i : Nat) (h : i < l.length) (a : Option Addr) (n c : Nat), (pz l).set (i * 2 + 1) (.slice a n c) = pz (l.set i (l[i].1, a, n, c))
  | x :: t, 0, _, _, _, _ => rfl
  | x :: t, i + 1, h, a, n, c => by
    have ih := xz_set t i (by simpa using h) a n c
    rw [show (i + 1) * 2 + 1 = (i * 2 + 1) + 1 + 1 by omega]
    simp only [pz, List.set_cons_succ, List.getElem_cons_succ]
    rw [ih]
theorem own_xset {W : World} {B g n cp i : Nat} {l : List Pt} (h : W.ownsRow B 51 2 (.slice (some ⟨g, 0, none⟩) n cp) n (pz l)) (hi : i < l.length) (a : Option Addr) (m c : Nat) :
    (W.setCell ⟨g, i * 2 + 1, none⟩ (.slice a m c)).ownsRow B 51 2 (.slice (some ⟨g, 0, none⟩) n cp) n (pz (l.set i (l[i].1, a, m, c))) := by
  rw [← xz_set l i hi]
  exact (h.stored (i * 2 + 1) _).1
/-- While the parts' numbers are cloned, one behind the other. -/
structure CI (w W : World) (kx ky : Nat) (c : Cm) (v4 v5 : Value) (l l' : List Pt) (i : Nat) : Prop where
  kx : W.heap[kx]? = some (.cells #[.int .i64 c.op, .int .i64 c.ix, .int .i64 c.gn, .int .i64 c.kd, v4, v5] 38 (0, 0))
  ky : W.heap[ky]? = some (.cells #[.int .i64 0, .int .i64 0, .int .i64 0, .int .i64 0, .slice none 0 0, .slice none 0 0] 38 (0, 0))
  pl : Plain v4
  v4 : Iz W v4 c.V ∧ ∀ k, v4.ownBlock = some k → w.heap.size + 2 ≤ k ∧ k < W.heap.size ∧ v5.ownBlock ≠ some k
  n : l'.length = c.P.length
  ow : W.ownsRow (w.heap.size + 2) 51 2 v5 c.P.length (pz l')
  lo : ∀ j (h1 : j < l'.length) (h2 : j < c.P.length), j < i → (l'[j].1 = c.P[j].1 ∧ Plain (ptV l'[j])) ∧ Iz W (ptV l'[j]) c.P[j].2 ∧ ∀ k, (ptV l'[j]).ownBlock = some k → w.heap.size + 2 ≤ k ∧ k < W.heap.size ∧ v5.ownBlock ≠ some k
  hi : ∀ j (h1 : j < l'.length) (h2 : j < l.length), i ≤ j → l'[j] = l[j]
  bl : Below w.heap.size w W
theorem CI.later {w W W' : World} {kx ky : Nat} {c : Cm} {v4 v5 : Value} {l l' : List Pt} {i : Nat} (h : CI w W kx ky c v4 v5 l l' i) (hb : Below W.heap.size W W') : CI w W' kx ky c v4 v5 l l' i where
  kx := (hb.block kx (lt_of_block h.kx)).trans h.kx
  ky := (hb.block ky (lt_of_block h.ky)).trans h.ky
  pl := h.pl
  v4 := ⟨h.v4.1.later hb, fun k e => by have := h.v4.2 k e; have := hb.size; exact ⟨by omega, by omega, (h.v4.2 k e).2.2⟩⟩
  n := h.n
  ow := own_later h.ow hb
  lo := fun j h1 h2 h3 => by
    obtain ⟨a, b, d⟩ := h.lo j h1 h2 h3
    exact ⟨a, b.later hb, fun k e => by have := d k e; have := hb.size; exact ⟨by omega, by omega, (d k e).2.2⟩⟩
  hi := h.hi
  bl := below_on h.bl hb
/-- One part's numbers are cloned. -/
theorem CI.step {w W V : World} {kx ky g n cp : Nat} {c : Cm} {v4 : Value} {l l' : List Pt} {i : Nat} (h : CI w W kx ky c v4 (.slice (some ⟨g, 0, none⟩) n cp) l l' i) (hxy : kx < w.heap.size + 2 ∧ ky < w.heap.size + 2) (hW : w.heap.size + 2 ≤ W.heap.size) (hb : Below W.heap.size W V) (hi : i < l'.length) (hP : i < c.P.length) (hl : i < l.length) (hk : l[i].1 = c.P[i].1) {a : Option Addr} {m q B : Nat} (hB : W.heap.size ≤ B)
    (ho : V.ownsRow B 2 1 (.slice a m q) c.P[i].2.length (zc c.P[i].2)) : CI w (V.setCell ⟨g, i * 2 + 1, none⟩ (.slice a m q)) kx ky c v4 (.slice (some ⟨g, 0, none⟩) n cp) l (l'.set i (l'[i].1, a, m, q)) (i + 1) := by
  have h2 := h.later hb
  have hm : Mv V (V.setCell ⟨g, i * 2 + 1, none⟩ (.slice a m q)) (fun j => j = g) := (Mv.refl V (fun j => j = g)).set rfl _ _
  have hgl := h.ow.lt g rfl
  have hsz := hm.size
  have hbs := hb.size
  have holt := ho.lt
  refine ⟨hm.at h2.kx (fun e => by omega), hm.at h2.ky (fun e => by omega), h.pl, ⟨h2.v4.1.frame hm (fun k e e2 => ?_), fun k e => ?_⟩, by rw [List.length_set]; exact h.n, ?_, fun j h1 h3 h4 => ?_, fun j h1 h3 h4 => ?_, ?_⟩
  · have := (h2.v4.2 k e).2.2
    rw [e2] at this
    exact this rfl
  · have := h2.v4.2 k e
    exact ⟨by omega, by omega, this.2.2⟩
  · have hn : n = c.P.length := by
      rcases h2.ow.2 with ⟨e, -⟩ | ⟨g9, c9, cur, e, -⟩
      · cases e
      · injection e
    subst hn
    exact own_xset h2.ow hi a m q
  · rw [List.length_set] at h1
    by_cases e : i = j
    · subst e
      have e1 : (l'.set i (l'[i].1, a, m, q))[i]'(by rw [List.length_set]; exact hi) = (l'[i].1, a, m, q) := List.getElem_set_self ..
      rw [e1]
      have e2 := h.hi i hi hl (Nat.le_refl _)
      refine ⟨⟨by rw [e2]; exact hk, own_plain ho⟩, ?_, fun k e3 => ?_⟩
      · show Iz _ (.slice a m q) _
        refine (Iz.own (B := B) ?_).frame hm (fun k e3 e4 => ?_)
        · exact ho
        · have := holt k e3
          omega
      · have := holt k e3
        refine ⟨by omega, by omega, fun e4 => ?_⟩
        have e5 : g = k := Option.some.inj e4
        omega
    · rw [List.getElem_set_ne e]
      obtain ⟨a1, a2, a3⟩ := h2.lo j h1 h3 (by omega)
      refine ⟨a1, a2.frame hm (fun k e3 e4 => ?_), fun k e3 => ?_⟩
      · have := (a3 k e3).2.2
        rw [e4] at this
        exact this rfl
      · have := a3 k e3
        exact ⟨by omega, by omega, this.2.2⟩
  · rw [List.getElem_set_ne (by omega)]
    exact h.hi j (by rw [List.length_set] at h1; exact h1) h3 (by omega)
  · exact h2.bl.setCell (by show _ ≤ g; omega) _
end Go.Proofs.YtfbhoemfabgjpaaGreat
