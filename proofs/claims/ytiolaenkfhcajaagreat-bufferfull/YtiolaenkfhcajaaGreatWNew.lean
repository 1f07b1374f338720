/-
  World: cloneKinds; New.
-/
import Derived.Test.YtiolaenkfhcajaaGreatMgB
namespace Go.Proofs.YtiolaenkfhcajaaGreat
open Go.RowKit
set_option maxRecDepth 100000
/-- The clone under way: behind i rounds. -/
def Ck (w w1 W : World) (v : Value) (ks : List Kind) (L : List Kc) (i : Nat) : Prop :=
  L.length = ks.length ∧ (∀ j (h1 : j < L.length) (h2 : j < ks.length), L[j].1 = ks[j].1 ∧ (j < i → W.ownsRow w1.heap.size 9 1 (kcV L[j]) ks[j].2.length (sz ks[j].2))) ∧ W.ownsRow w.heap.size 66 2 v ks.length (kz L) ∧ Below w.heap.size w W ∧ w1.heap.size ≤ W.heap.size ∧ w.heap.size ≤ w1.heap.size ∧ ∀ k, v.ownBlock = some k → k < w1.heap.size
theorem Ck.turn {w w1 W W2 : World} {g c : Nat} {ks : List Kind} {L : List Kc} {i : Nat} (h : Ck w w1 W (.slice (some ⟨g, 0, none⟩) ks.length c) ks L i) (hi : i < ks.length) (hb : Below W.heap.size W W2) {a2 : Option Addr} {n2 c2 : Nat} (ho : W2.ownsRow W.heap.size 9 1 (.slice a2 n2 c2) ks[i].2.length (sz ks[i].2)) :
    (W2.cell? ⟨g, i * 2 + 1, none⟩ = some (kcV (L[i]'(by rw [h.1]; exact hi))) ∧ W2.frozen? ⟨g, i * 2 + 1, none⟩ = false) ∧ ∃ L', Ck w w1 (W2.setCell ⟨g, i * 2 + 1, none⟩ (.slice a2 n2 c2)) (.slice (some ⟨g, 0, none⟩) ks.length c) ks L' (i + 1) := by
  obtain ⟨h1, h2, h3, h4, h5, h6, h7⟩ := h
  have hL : i < L.length := by omega
  have h3' := own_later h3 hb
  have hg := h7 g rfl
  refine ⟨⟨by rw [h3'.cellAt (i * 2 + 1) (by omega)]; exact (kz_at L i hL).2, h3'.frozenAt _⟩, L.set i (L[i].1, a2, n2, c2), by rw [List.length_set]; exact h1, fun j j1 j2 => ?_, ?_, ?_, ?_, h6, h7⟩
  · rw [List.length_set] at j1
    obtain ⟨k1, k2⟩ := h2 j j1 j2
    by_cases e : i = j
    · subst e
      rw [List.getElem_set_self]
      refine ⟨k1, fun _ => own_set (own_lower ho h5) (fun e' => ?_)⟩
      have := (ho.lt g e').1
      omega
    · rw [List.getElem_set_ne e]
      refine ⟨k1, fun hj => own_set (own_later (k2 (by omega)) hb) (fun e' => ?_)⟩
      have := ((k2 (by omega)).lt g e').1
      omega
  · have := (h3'.stored (i * 2 + 1) (.slice a2 n2 c2)).1
    rw [show (Value.slice a2 n2 c2) = .slice (a2, n2, c2).1 (a2, n2, c2).2.1 (a2, n2, c2).2.2 from rfl, kz_set L i (a2, n2, c2) hL] at this
    exact this
  · have := (h3.lt g rfl).1
    exact (below_on h4 hb).grown (grown_set _ _ _ _) (by have := hb.size; have := h4.size; omega) (fun k e => by cases e; omega)
  · have := (grown_set W2 g (i * 2 + 1) (.slice a2 n2 c2)).size
    have := hb.size
    omega
/-- Kinds in memory of their own. -/
def Ko (B : Nat) (w : World) (v : Value) (ks : List Kind) : Prop := ∃ L, w.ownsRow B 66 2 v ks.length (kz L) ∧ L.length = ks.length ∧ ∀ i (h1 : i < L.length) (h2 : i < ks.length), L[i].1 = ks[i].1 ∧ w.ownsRow B 9 1 (kcV L[i]) ks[i].2.length (sz ks[i].2)
theorem Ck.fin {w w1 W : World} {v : Value} {ks : List Kind} {L : List Kc} (h : Ck w w1 W v ks L ks.length) : Ko w.heap.size W v ks ∧ Below w.heap.size w W := by
  obtain ⟨h1, h2, h3, h4, h5, h6, h7⟩ := h
  exact ⟨⟨L, h3, h1, fun i i1 i2 => ⟨(h2 i i1 i2).1, own_lower ((h2 i i1 i2).2 i2) h6⟩⟩, h4⟩
theorem Ko.kr {B : Nat} {w : World} {v : Value} {ks : List Kind} (h : Ko B w v ks) : Kr w v ks := by
  obtain ⟨L, h1, h2, h3⟩ := h
  rcases h1.2 with ⟨rfl, hl⟩ | ⟨g, c, cur, rfl, -, hg, e1, e2, hcs, htake⟩
  · have : ks.length = 0 := hl
    exact ⟨none, 0, by rw [this], by omega, Nat.zero_le _, fun j hj => absurd hj (by omega)⟩
  · refine ⟨_, c, rfl, e1, e2, fun i hi => ⟨g, 0, kcV (L[i]'(by omega)), rfl, ?_, ?_, ?_⟩⟩
    · rw [Nat.zero_add, h1.cellAt (i * 2) (by omega), (kz_at L i (by omega)).1, (h3 i (by omega) hi).1]
    · rw [Nat.zero_add, h1.cellAt (i * 2 + 1) (by omega), (kz_at L i (by omega)).2]
    · exact Sr.own (h3 i (by omega) hi).2
theorem Ko.same {B : Nat} {w w' : World} {v : Value} {ks : List Kind} (h : Ko B w v ks) (hs : ∀ k, B ≤ k → k < w.heap.size → w'.heap[k]? = w.heap[k]?) : Ko B w' v ks := by
  have key : ∀ {e s n : Nat} {v : Value} {xs : List Value}, w.ownsRow B e s v n xs → w'.ownsRow B e s v n xs := fun {e s n v xs} hr => by
    have hlt := hr.lt
    obtain ⟨a1, a2⟩ := hr
    refine ⟨a1, ?_⟩
    rcases a2 with a2 | ⟨g, c, cur, rfl, b1, b2, b3⟩
    · exact .inl a2
    · have := hlt g rfl
      exact .inr ⟨g, c, cur, rfl, b1, (hs g this.1 this.2).trans b2, b3⟩
  obtain ⟨L, h1, h2, h3⟩ := h
  exact ⟨L, key h1, h2, fun i i1 i2 => ⟨(h3 i i1 i2).1, key (h3 i i1 i2).2⟩⟩
set_option maxHeartbeats 4000000 in
theorem clone_kinds {w : World} {v : Value} {ks : List Kind} (h : Kr w v ks) (hn : ks.length ≤ 1000) (hf : ∀ k ∈ ks, k.2.length ≤ 1000) :
    Calls Tryz.prog 16 #[v] w fun e w' => ∃ v', e = .returned v' ∧ Ko w.heap.size w' v' ks ∧ Below w.heap.size w w' := by
  have HK := hide h
  obtain ⟨L0, hkl, hlen, hsr⟩ := h.kl
  have JC := hide (clone_kl v L0 w hkl (by omega))
  have HN : Hid (L0.length = ks.length) := hlen
  have HR : Hid (∀ i (h1 : i < L0.length) (h2 : i < ks.length), L0[i].1 = ks[i].1) := fun i h1 h2 => (hsr i h1 h2).1
  clear hsr hkl
  obtain ⟨ao, c, rfl, h1, h2, h3⟩ := h
  have hbig : c ≤ 9223372036854775807 := by unfold maxLen at h2; omega
  have HF := hide hf
  clear h3 h2 hf hlen
  go_enter Tryz.func16, Tryz.ntmps16
  go_wp2_with fail
  refine JC.out.mono ?_
  rintro e w1 ⟨v', rfl, ho, hb⟩
  rw [HN.out] at ho
  have hlt := ho.lt
  have hbs := hb.size
  obtain ⟨a', c', rfl⟩ := own_len ho
  have H0 : Hid (∃ L, Ck w w1 w1 (.slice a' ks.length c') ks L 0) := ⟨L0, HN.out, fun j j1 j2 => ⟨HR.out j j1 j2, fun e => absurd e (by omega)⟩, ho, hb, Nat.le_refl _, hb.size, fun k e => (hlt k e).2⟩
  have hc' := (own_cap ho)
  clear ho hlt HR JC hb HN
  go_wp2_with fail
  go_loopw [10] (fun v10 W => ∃ i : Nat, i ≤ ks.length ∧ v10 = .int .i64 (i : Int) ∧ Hid (∃ L, Ck w w1 W (.slice a' ks.length c') ks L i)) (fun v10 _ => ks.length - (intOf v10).toNat)
  case atStart => exact ⟨0, Nat.zero_le _, rfl, H0⟩
  case round =>
    obtain ⟨i, hil, rfl, HC⟩ := hrel
    by_cases hlt : i < ks.length
    · have t1 : (i : Int) < (ks.length : Int) := by omega
      have t2 : (0 : Int) ≤ (i : Int) := by omega
      obtain ⟨L, hC⟩ := HC.out
      obtain ⟨ao2, c2, e2, -, -, h3⟩ := HK.out.later hC.2.2.2.1
      simp only [Value.slice.injEq, true_and] at e2
      obtain ⟨rfl, rfl⟩ := e2
      obtain ⟨g, o, vf, rfl, y1, y2, y3⟩ := h3 i hlt
      obtain ⟨g', c3, e3, -, -⟩ := own_form hC.2.2.1 (by omega)
      simp only [Value.slice.injEq, true_and] at e3
      obtain ⟨rfl, rfl⟩ := e3
      have hfl := HF.out _ (List.getElem_mem hlt)
      have HT : Hid (∀ (W2 : World), Below (wr.alloc (.cells #[.string ks[i].1, vf] 66)).heap.size (wr.alloc (.cells #[.string ks[i].1, vf] 66)) W2 → ∀ a2 n2 c2, W2.ownsRow (wr.alloc (.cells #[.string ks[i].1, vf] 66)).heap.size 9 1 (.slice a2 n2 c2) ks[i].2.length (sz ks[i].2) → (W2.cell? ⟨g', i * 2 + 1, none⟩ = some (kcV (L[i]'(by rw [hC.1]; exact hlt))) ∧ W2.frozen? ⟨g', i * 2 + 1, none⟩ = false) ∧ ∃ L', Ck w w1 (W2.setCell ⟨g', i * 2 + 1, none⟩ (.slice a2 n2 c2)) (.slice (some ⟨g', 0, none⟩) ks.length c') ks L' (i + 1)) := fun W2 hb2 a2 n2 c2 ho => hC.turn hlt (below_on (below_alloc wr _) hb2) (own_lower ho (by simp))
      have JT : Hid (Calls Tryz.prog 28 #[vf] (wr.alloc (.cells #[.string ks[i].1, vf] 66)) fun e w' => ∃ v', e = .returned v' ∧ w'.ownsRow (wr.alloc (.cells #[.string ks[i].1, vf] 66)).heap.size 9 1 v' ks[i].2.length (sz ks[i].2) ∧ Below (wr.alloc (.cells #[.string ks[i].1, vf] 66)).heap.size (wr.alloc (.cells #[.string ks[i].1, vf] 66)) w') := clone_texts vf _ _ (y3.on (fun a x e => ((below_alloc wr _).cell (p := a) (World.block_lt_of_cell? wr _ e)).trans e)) (by omega)
      generalize L[i]'(by rw [hC.1]; exact hlt) = li at *
      clear hC HC h3 hfl
      generalize ks[i] = kd at *
      obtain ⟨nm, fs⟩ := kd
      obtain ⟨af, cf, rfl, -⟩ := y3
      dsimp only at y1 y2 HT JT
      go_wp2_with fail
      refine JT.out.mono ?_
      rintro e w2 ⟨v2, rfl, ho2, hb2⟩
      obtain ⟨a2, c2, rfl⟩ := own_len ho2
      obtain ⟨⟨z1, z2⟩, hz⟩ := HT.out w2 hb2 _ _ _ ho2
      have HZ := hide hz
      clear hz HT JT ho2 hb2
      go_wp2_with fail
      go_roundw
      case rel => exact ⟨i + 1, by omega, by go_num, HZ⟩
      case measure => simp [intOf]; omega
    · obtain rfl : i = ks.length := by omega
      have t1 : ¬ (ks.length : Int) < (ks.length : Int) := by omega
      obtain ⟨L, hC⟩ := HC.out
      have HE := hide hC.fin
      clear hC HC
      go_wp2_with fail
      go_ret
      exact ⟨_, rfl, HE.out.1, HE.out.2⟩
/-- A world of nobody. -/
theorem wx_made {w w3 : World} {g0 B2 : Nat} {vk : Value} {ks : List Kind} (hp : Pl w3 (fun k => k = g0) g0 200 [] []) (hg : g0 < B2) (hk : Ko B2 w3 vk ks) (hB : w.heap.size ≤ g0) (hB2 : B2 ≤ w3.heap.size) (T : Nat → Ts) :
    ∃ own : Nat → Nat, (∀ k, k < w.heap.size → own k = 0) ∧ Wx 0 (((w3.alloc (.map #[] 0)).alloc (.map #[] 0)).alloc (.cells #[vk, .pointer (some ⟨g0, 0, none⟩), .map (some w3.heap.size), .map (some (w3.heap.size + 1))] 63)) own (w3.heap.size + 1 + 1) vk g0 w3.heap.size (w3.heap.size + 1) 0 ks [] [] (fun _ => none) (fun _ => none) T := by
  obtain ⟨o3, ho3⟩ : ∃ X, X = Obj.cells #[vk, .pointer (some ⟨g0, 0, none⟩), .map (some w3.heap.size), .map (some (w3.heap.size + 1))] 63 (0, 0) := ⟨_, rfl⟩
  rw [← ho3]
  obtain ⟨n1, n2, n3⟩ : ((((w3.alloc (.map #[] 0)).alloc (.map #[] 0)).alloc o3).heap[w3.heap.size]? = some (.map #[] 0)) ∧ ((((w3.alloc (.map #[] 0)).alloc (.map #[] 0)).alloc o3).heap[w3.heap.size + 1]? = some (.map #[] 0)) ∧ ((((w3.alloc (.map #[] 0)).alloc (.map #[] 0)).alloc o3).heap[w3.heap.size + 1 + 1]? = some o3) := by
    refine ⟨?_, ?_, ?_⟩
    · have b1 := below_alloc (w3.alloc (.map #[] 0)) (.map #[] 0)
      have b2 := below_alloc ((w3.alloc (.map #[] 0)).alloc (.map #[] 0)) o3
      exact (b2.block _ (by simp; omega)).trans ((b1.block _ (by simp)).trans (heap_alloc_new w3 _))
    · have b2 := below_alloc ((w3.alloc (.map #[] 0)).alloc (.map #[] 0)) o3
      refine (b2.block _ (by simp)).trans ?_
      have := heap_alloc_new (w3.alloc (.map #[] 0)) (.map #[] 0)
      simpa using this
    · have := heap_alloc_new ((w3.alloc (.map #[] 0)).alloc (.map #[] 0)) o3
      simpa using this
  have hb : Below w3.heap.size w3 (((w3.alloc (.map #[] 0)).alloc (.map #[] 0)).alloc o3) := below_on (below_on (below_alloc w3 _) (below_alloc _ _)) (below_alloc _ _)
  have hsz : (((w3.alloc (.map #[] 0)).alloc (.map #[] 0)).alloc o3).heap.size = w3.heap.size + 3 := by simp
  generalize ((w3.alloc (.map #[] 0)).alloc (.map #[] 0)).alloc o3 = W at *
  refine ⟨fun k => if k < B2 then (if k = g0 then 3 else 0) else if k = w3.heap.size then 4 else if k = w3.heap.size + 1 then 5 else if k = w3.heap.size + 1 + 1 then 1 else 2, fun k hk => ?_, ⟨?_, ?_, ?_⟩, ⟨by omega, by omega⟩, ?_, ?_, fun _ => ?_, fun _ => ?_, fun _ => ?_, fun s g h => by cases h⟩
  · dsimp only
    rw [if_pos (by omega), if_neg (by omega)]
  · dsimp only
    rw [if_neg (by omega), if_neg (by omega), if_neg (by omega), if_pos rfl]
  · dsimp only
    rw [if_neg (by omega), if_pos rfl]
  · dsimp only
    rw [if_neg (by omega), if_neg (by omega), if_pos rfl]
  · rw [Wc, n3, ho3]
  · intro w' hw'
    refine Ko.kr (hk.same (w' := w') (fun k k1 k2 => ?_))
    refine (hw' k ⟨by omega, ?_⟩).trans (hb.block k k2)
    dsimp only
    rw [if_neg (by omega), if_neg (by omega), if_neg (by omega), if_neg (by omega)]
  · refine (hp.later hb).mono (fun k e => ?_)
    subst e
    refine ⟨by omega, ?_⟩
    dsimp only
    rw [if_pos hg, if_pos rfl]
  · exact (Mp.made w3).same (n1.trans (heap_alloc_new w3 _).symm)
  · have e : (w3.alloc (.map #[] 0)).heap.size = w3.heap.size + 1 := by simp
    have h1 := Mq.made (w3.alloc (.map #[] 0))
    have h2 := heap_alloc_new (w3.alloc (.map #[] 0)) (.map #[] 0)
    rw [e] at h1 h2
    exact h1.same (n2.trans h2.symm)
set_option maxHeartbeats 4000000 in
theorem wnew_bad {w : World} {v : Value} {ks : List Kind} (h : Kr w v ks) (hm : ¬ mayB ks) :
    Calls Tryz.prog 6 #[v] w fun e w' => e = .returned (.tuple #[.pointer none, .int .i64 65]) ∧ Below w.heap.size w w' := by
  have JM : Hid (Calls Tryz.prog 14 #[v] w fun e w' => e = .returned (.bool false) ∧ Below w.heap.size w w') := (maybe_any h).mono (fun _e _w' ⟨⟨b, k1, k2⟩, k3⟩ => ⟨by
    rw [k1]
    cases b with
    | true => exact absurd (k2.1 rfl) hm
    | false => rfl, k3⟩)
  obtain ⟨ao, c, rfl, -⟩ := h
  clear hm
  go_enter Tryz.func6, Tryz.ntmps6
  go_wp2_with fail
  refine JM.out.mono ?_
  rintro e w1 ⟨rfl, hb⟩
  have HB := hide hb
  clear hb JM
  go_wp2_with fail
  go_ret2
  exact ⟨rfl, HB.out⟩
set_option maxHeartbeats 4000000 in
theorem wnew_any {w : World} {v : Value} {ks : List Kind} (h : Kr w v ks) (hm : mayB ks) (T : Nat → Ts) :
    Calls Tryz.prog 6 #[v] w fun e w' => ∃ gw, e = .returned (.tuple #[.pointer (some ⟨gw, 0, none⟩), .int .i64 0]) ∧ (∃ own vk gp gm gt, (∀ k, k < w.heap.size → own k = 0) ∧ Wx 0 w' own gw vk gp gm gt 0 ks [] [] (fun _ => none) (fun _ => none) T) ∧ Below w.heap.size w w' := by
  have JM : Hid (Calls Tryz.prog 14 #[v] w fun e w' => e = .returned (.bool true) ∧ Below w.heap.size w w') := (maybe_any h).mono (fun _e _w' ⟨⟨b, k1, k2⟩, k3⟩ => ⟨by rw [k1, k2.2 hm], k3⟩)
  have JK : Hid (∀ W, Below w.heap.size w W → Calls Tryz.prog 16 #[v] W fun e w' => ∃ v', e = .returned v' ∧ Ko W.heap.size w' v' ks ∧ Below W.heap.size W w') := fun W hW => clone_kinds (h.later hW) (by have := hm.2.1; omega) (fun k hk => by have := (hm.2.2.1 k hk).1; omega)
  have JP : Hid (∀ W : World, Calls Tryz.prog 15 #[.int .i64 200] W fun e w' => e = .returned (.tuple #[.pointer (some ⟨W.heap.size, 0, none⟩), .int .i64 0]) ∧ Pl w' (fun k => k = W.heap.size) W.heap.size 200 [] [] ∧ Below W.heap.size W w') := fun W => i_new_any 200 W (by omega) (by omega)
  have hmm := @run_makeMap Tryz.prog
  obtain ⟨ao, c, rfl, -⟩ := h
  clear hm
  go_enter Tryz.func6, Tryz.ntmps6
  go_wp2_with fail
  refine JM.out.mono ?_
  rintro e w1 ⟨rfl, hb⟩
  have HB1 := hide hb
  clear hb JM
  go_wp2_with fail
  refine (JP.out _).mono ?_
  rintro e w2 ⟨rfl, hp, hb⟩
  have HB2 := hide hb
  have HP := hide hp
  clear hp hb JP
  go_wp2_with fail
  refine (JK.out _ (below_on HB1.out HB2.out)).mono ?_
  rintro e w3 ⟨vk, rfl, hk, hb⟩
  have HB3 := hide hb
  have HKo := hide hk
  clear hb JK
  obtain ⟨L, hk, -⟩ := hk
  obtain ⟨ak, ck, rfl⟩ := own_len hk
  clear hk
  go_wp2_with fail
  go_ret2
  have hlt : w1.heap.size < w2.heap.size := by
    obtain ⟨⟨vg, vl, vf, hpm, -⟩, -⟩ := HP.out
    exact hpm.lt
  obtain ⟨own, o1, o2⟩ := wx_made (w := w) (HP.out.later HB3.out) hlt HKo.out HB1.out.size HB3.out.size T
  refine ⟨_, rfl, ⟨own, _, _, _, _, o1, o2⟩, ?_⟩
  exact below_on (below_on (below_on HB1.out HB2.out) HB3.out) (below_on (below_on (below_alloc w3 _) (below_alloc _ _)) (below_alloc _ _))
end Go.Proofs.YtiolaenkfhcajaaGreat
