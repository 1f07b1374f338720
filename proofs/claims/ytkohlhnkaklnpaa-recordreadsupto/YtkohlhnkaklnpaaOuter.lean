/-
  The law's outer and written: an owner writes a name over a list of lists, and behind it.
-/
import Derived.Test.YtkohlhnkaklnpaaKeepP
import Derived.Test.YtkohlhnkaklnpaaConv
import Derived.Deep.CutBlock
import Derived.Deep.DeepCutAuto
import Derived.Lib.ConvBytes
namespace Go.Proofs.Ytkohlhnkaklnpaa
open Go.RowKit
/-- '[]byte(s)', in new memory. -/
theorem conv_new (T : List UInt8) (W : World) (hl : T.length ≤ 100000000) : ∃ ao c W', (convert 9 22 (.string ⟨T.toArray⟩)).run Try.prog W = .ok (.slice ao T.length c) W' ∧ Bs W' (.slice ao T.length c) T ∧ (∀ k, (Value.slice ao T.length c).ownBlock = some k → W.heap.size ≤ k ∧ k < W'.heap.size) ∧ Below W.heap.size W W' := by
  have hs : (ByteArray.mk T.toArray).size = T.length := by simp [ByteArray.size]
  have hr := Lib.run_convert_string_bytes (P := Try.prog) W 9 22 5 ⟨T.toArray⟩ Try.underlying9 Try.underlying22 Try.underlying5
  rw [hs] at hr
  refine ⟨_, _, _, hr, ?_, ?_, ?_⟩
  · refine Bs.row (o := 0) (grownCap_ge W _ 0 5) (grownCap_le_maxLen W _ 0 5 (by unfold maxLen; omega)) (fun j hj => ?_)
    rw [Nat.zero_add, Lib.bytesWorld_cell W 5 ⟨T.toArray⟩ j (by rw [hs]; exact hj)]
    simp [hj]
  · intro k hk
    simp only [Value.ownBlock, Option.some.injEq] at hk
    rw [Lib.bytesWorld_size]
    omega
  · exact ⟨rfl, rfl, rfl, by rw [Lib.bytesWorld_size]; omega, fun k hk => Lib.bytesWorld_at_old W 5 _ k hk⟩
theorem Bs.kept {w w' : World} {v : Value} {l : List UInt8} (h : Bs w v l) (hs : ∀ k, v.ownBlock = some k → k < w.heap.size → w'.heap[k]? = w.heap[k]?) : Bs w' v l := by
  obtain ⟨ao, c, rfl, h1, h2, h3⟩ := h
  refine ⟨ao, c, rfl, h1, h2, fun j hj => ?_⟩
  obtain ⟨g, o, rfl, hc⟩ := h3 j hj
  exact ⟨g, o, rfl, (World.cell?_of_block (hs g rfl (World.block_lt_of_cell? w _ hc))).trans hc⟩
/-- A list that reads as the name, and lies in memory from here on. -/
def Nm (w : World) (B : Nat) (u : Value) (T : List UInt8) : Prop := Bs w u T ∧ ∀ k, u.ownBlock = some k → B ≤ k ∧ k < w.heap.size
theorem Nm.grown {w w' : World} {B : Nat} {u : Value} {T : List UInt8} {row : Option Nat} (h : Nm w B u T) (hg : w.grownBy w' row) (hr : ∀ k, row = some k → u.ownBlock ≠ some k) : Nm w' B u T :=
  ⟨h.1.kept (fun k hk hlt => hg.block k hlt (fun e => hr k e.symm hk)), fun k hk => ⟨(h.2 k hk).1, Nat.lt_of_lt_of_le (h.2 k hk).2 hg.size⟩⟩
/-- A list of lists of which the first ones read as the name. -/
def Wr (w : World) (B M : Nat) (v : Value) (n k : Nat) (T : List UInt8) : Prop := ∃ us : List Value, w.ownsRow B 22 1 v n us ∧ ∀ i (h : i < us.length), i < k → Nm w M us[i] T ∧ Ap us[i] v
theorem Wr.grown {w w' : World} {B M n k : Nat} {v : Value} {T : List UInt8} (h : Wr w B M v n k T) (hb : Below w.heap.size w w') : Wr w' B M v n k T := by
  obtain ⟨us, h1, h2⟩ := h
  exact ⟨us, h1.kept (grown_later hb) (by cases v.ownBlock <;> simp), fun i hi hik => ⟨(h2 i hi hik).1.grown (grown_later hb) (fun k e => by cases e), (h2 i hi hik).2⟩⟩
set_option maxHeartbeats 4000000 in
set_option maxRecDepth 100000 in
theorem written_any (B M n : Nat) (v : Value) (T : List UInt8) (w : World) (h : Wr w B M v n n T) :
    Calls Try.prog 29 #[v, .string ⟨T.toArray⟩] w fun e w' => e = .returned (.bool true) ∧ w' = w := by
  obtain ⟨us, h1, h2⟩ := h
  obtain ⟨ao, cap, rfl⟩ := own_len h1
  have hcap : n ≤ cap ∧ cap ≤ 9223372036854775807 := by
    rcases h1.2 with ⟨e, h0⟩ | ⟨g, c', cur, e, _, _, q1, q2, _⟩
    · simp only [Value.slice.injEq] at e
      obtain ⟨_, _, rfl⟩ := e
      exact ⟨by omega, by omega⟩
    · simp only [Value.slice.injEq] at e
      obtain ⟨_, _, rfl⟩ := e
      unfold maxLen at q2
      exact ⟨q1, by omega⟩
  obtain ⟨hc1, hc2⟩ := hcap
  have hul : us.length = n := by have := h1.1; omega
  have H1 := hide h1
  have H2 := hide h2
  clear h1 h2
  go_enter Try.func29, Try.ntmps29
  go_wp2_with fail
  go_loopw [5] (fun v5 wr => ∃ i : Nat, i ≤ n ∧ v5 = .int .i64 i ∧ wr = w) (fun v5 _ => n - (intOf v5).toNat)
  case atStart => exact ⟨0, Nat.zero_le _, rfl, rfl⟩
  case round =>
    obtain ⟨i, hi, rfl, rfl⟩ := hrel
    by_cases hlt : i < n
    · obtain ⟨g, rfl⟩ : ∃ g, ao = some ⟨g, 0, none⟩ := by
        rcases H1.out.2 with ⟨_, e⟩ | ⟨g, c', cur, e, _⟩
        · omega
        · simp only [Value.slice.injEq] at e
          exact ⟨g, e.1⟩
      have e1 : (i : Int) < (n : Int) := by omega
      have c1 := H1.out.cellAt i (by omega)
      rw [List.getElem?_eq_getElem (by omega)] at c1
      have hn := (H2.out i (by omega) hlt).1.1
      obtain ⟨ua, uc, hu, _, _, _⟩ := id hn
      rw [hu] at c1 hn
      have cv := conv_bs hn
      have z1 : ((ByteArray.mk (List.toArray T)).toList == (ByteArray.mk (List.toArray T)).toList) = true := by simp
      have HU := hide hu
      clear hu hn
      go_wp2_with fail
      go_roundw
      case rel => exact ⟨i + 1, by omega, by go_num, trivial⟩
      case measure => simp [intOf]; omega
    · have e1 : ¬ (i : Int) < (n : Int) := by omega
      go_wp2_with fail
      go_ret
      exact ⟨rfl, rfl⟩
set_option maxHeartbeats 4000000 in
set_option maxRecDepth 100000 in
theorem outer_any (B n : Nat) (v : Value) (us0 : List Value) (T : List UInt8) (w : World) (h : w.ownsRow B 22 1 v n us0) (hT : T.length ≤ 100000000) (hn : n ≤ 1000000000000) (hB : B ≤ w.heap.size) :
    Calls Try.prog 28 #[v, .string ⟨T.toArray⟩] w fun e w' => ∃ v', e = .returned v' ∧ Wr w' B w.heap.size v' (n + 64) (n + 64) T ∧ (∀ k, v'.ownBlock = some k → v.ownBlock = some k ∨ w.heap.size ≤ k) ∧ Fr w w' v.ownBlock none := by
  obtain ⟨i0, hi, hz0, hz1, hz2⟩ := info_parts info22
  obtain ⟨ao, cap, rfl⟩ := own_len h
  have hcap : n ≤ cap ∧ cap ≤ 9223372036854775807 := by
    rcases h.2 with ⟨e, h0⟩ | ⟨g, c', cur, e, _, _, q1, q2, _⟩
    · simp only [Value.slice.injEq] at e
      obtain ⟨_, _, rfl⟩ := e
      exact ⟨by omega, by omega⟩
    · simp only [Value.slice.injEq] at e
      obtain ⟨_, _, rfl⟩ := e
      unfold maxLen at q2
      exact ⟨q1, by omega⟩
  obtain ⟨hc1, hc2⟩ := hcap
  have H := hide h
  clear h
  go_enter Try.func28, Try.ntmps28
  go_upto_block 0 with fail
  go_cut [] (fun wx => Hid (Wr wx B w.heap.size (.slice ao n cap) n n T) ∧ Hid (Fr w wx (Value.slice ao n cap).ownBlock none))
  case first =>
    go_wp2_with fail
    go_loopw [5] (fun v5 wr => ∃ k : Nat, k ≤ n ∧ v5 = .int .i64 k ∧ Hid (Wr wr B w.heap.size (.slice ao n cap) n k T) ∧ Hid (Fr w wr (Value.slice ao n cap).ownBlock none)) (fun v5 _ => n - (intOf v5).toNat)
    case atStart => exact ⟨0, Nat.zero_le _, rfl, ⟨us0, H.out, fun i _ hi => by omega⟩, Fr.refl _ _ _⟩
    case round =>
      obtain ⟨k, hk, rfl, HW, HF⟩ := hrel
      by_cases hlt : k < n
      · obtain ⟨us, h1, h2⟩ := HW.out
        have hul : us.length = n := by have := h1.1; omega
        obtain ⟨g, rfl⟩ : ∃ g, ao = some ⟨g, 0, none⟩ := by
          rcases h1.2 with ⟨_, e⟩ | ⟨g, c', cur, e, _⟩
          · omega
          · simp only [Value.slice.injEq] at e
            exact ⟨g, e.1⟩
        have e1 : (k : Int) < (n : Int) := by omega
        obtain ⟨ua, uc, w2, kc, hbs, hblk, hb2⟩ := conv_new T wr hT
        have h1' := h1.kept (grown_later hb2) (by simp [Value.ownBlock])
        have c1 := h1'.cellAt k (by omega)
        rw [List.getElem?_eq_getElem (by omega)] at c1
        have z1 := h1'.frozenAt k
        have hgw := (h1.lt g rfl).2
        have hsz := HF.out.2.2.2.1
        have HR := hide (And.intro h1 (And.intro h2 (And.intro h1' (And.intro hbs (And.intro hblk hb2)))))
        clear h1 h2 h1' hbs hblk hb2
        go_wp2_with fail
        go_roundw
        case rel =>
          obtain ⟨h1, h2, h1', hbs, hblk, hb2⟩ := HR.out
          refine ⟨k + 1, by omega, by go_num, ⟨us.set k (.slice ua T.length uc), ?_, fun i hi hik => ?_⟩, (HF.out.grown (grown_later hb2) (fun _ _ e => by cases e)).grown (grown_on ⟨rfl, rfl, rfl, Nat.le_refl _, fun _ _ _ => rfl⟩ k _) (fun q _ e => .inl e.symm)⟩
          · exact (h1'.stored k (.slice ua T.length uc)).1
          · by_cases e : i = k
            · subst e
              rw [List.getElem_set_self]
              have hap : ∀ q, (Value.slice ua T.length uc).ownBlock = some q → q ≠ g := fun q hq => by have := (hblk q hq).1; omega
              exact ⟨Nm.grown ⟨hbs, fun q hq => ⟨by have := (hblk q hq).1; omega, (hblk q hq).2⟩⟩ (grown_on ⟨rfl, rfl, rfl, Nat.le_refl _, fun _ _ _ => rfl⟩ i _) (fun q e hq => hap q hq (Option.some.inj e).symm), fun q h3 h4 => hap q h3 (Option.some.inj h4).symm⟩
            · rw [List.getElem_set_ne (fun e' => e e'.symm)]
              have hi' : i < us.length := by simpa using hi
              obtain ⟨n1, n2⟩ := h2 i hi' (by omega)
              exact ⟨(n1.grown (grown_later hb2) (fun q e => by cases e)).grown (grown_on ⟨rfl, rfl, rfl, Nat.le_refl _, fun _ _ _ => rfl⟩ k _) (fun q e hq => n2 q hq (by rw [← e]; rfl)), n2⟩
        case measure => simp [intOf]; omega
      · have e1 : ¬ (k : Int) < (n : Int) := by omega
        obtain rfl : k = n := by omega
        go_wp2_with fail
        go_meet
        exact ⟨HW, HF⟩
  obtain ⟨HW, HF⟩ := hcut
  obtain ⟨w1, rfl⟩ : ∃ x, x = wc := ⟨_, rfl⟩
  go_wp2_with fail
  go_loopw [0, 6] (fun v0 v6 wr => ∃ q : Nat, q ≤ 64 ∧ v6 = .int .i64 q ∧ Hid (Wr wr B w.heap.size v0 (n + q) (n + q) T) ∧ Hid (∀ k, v0.ownBlock = some k → (Value.slice ao n cap).ownBlock = some k ∨ w.heap.size ≤ k) ∧ Hid (Fr w wr (Value.slice ao n cap).ownBlock none)) (fun _ v6 _ => 64 - (intOf v6).toNat)
  case atStart => exact ⟨0, by omega, rfl, HW, fun k hk => .inl hk, HF⟩
  case round =>
    obtain ⟨q, hq, rfl, HW2, HBL, HF2⟩ := hrel
    obtain ⟨us, h1, h2⟩ := HW2.out
    obtain ⟨aov, capv, rfl⟩ := own_len h1
    have hul : us.length = n + q := by have := h1.1; omega
    have hsz := HF2.out.2.2.2.1
    by_cases hlt : q < 64
    · have e1 : (q : Int) < 64 := by omega
      obtain ⟨ua, uc, w2, kc, hbs, hblk, hb2⟩ := conv_new T wr hT
      have h1' := h1.kept (grown_later hb2) (by cases (Value.slice aov (n + q) capv).ownBlock <;> simp)
      have hs2 := hb2.size
      have HR := hide (And.intro h1 (And.intro h2 (And.intro hbs (And.intro hblk hb2))))
      have H1 := hide h1'
      clear h1 h2 h1' hbs hblk hb2
      go_wp2_with (at_builtin; refine wpList_append_keep rfl _ _ 34 rfl B 22 i0 (.slice none 0 0) 1 24 Try.underlying34 hi hz0 hz1 hz2 rfl (by decide) _ _ _ rfl (H1.out.alloc _) ⟨w2.heap.size, 0, none⟩ 1 1 [.slice ua T.length uc] rfl rfl ?b1 ?b2 ?b3 ?b4 ?b5 ?_)
      case b1 =>
        intro j u hj
        match j, hj with
        | 0, hj => simp at hj; subst hj; simp [Addr.add]
      case b2 => first | rfl | (intro u hu; simp at hu; subst hu; rfl) | simp [Value.oneCell']
      case b3 => unfold maxLen; omega
      case b4 => omega
      case b5 => first | omega | (simp; omega)
      intro v3 w3 ho3 hg3 ha3 _
      have hsa : (w2.alloc (.cells #[.slice ua T.length uc] 22)).heap.size = w2.heap.size + 1 := World.size_alloc _ _
      obtain ⟨ao3, cap3, rfl⟩ := own_len ho3
      have HR3 := hide (And.intro ho3 (And.intro hg3 (And.intro ha3 hsa)))
      clear ho3 hg3 ha3 hsa
      go_wp2_with fail
      go_roundw
      case rel =>
        obtain ⟨h1, h2, hbs, hblk, hb2⟩ := HR.out
        obtain ⟨ho3, hg3, ha3, hsa⟩ := HR3.out
        have hal : Below w2.heap.size w2 (w2.alloc (.cells #[.slice ua T.length uc] 22)) := (Below.refl _ w2).alloc (Nat.le_refl _) _
        have hv3 : ∀ k, (Value.slice ao3 (n + q + 1) cap3).ownBlock = some k → (Value.slice aov (n + q) capv).ownBlock = some k ∨ k = w2.heap.size + 1 := fun k hk => by
          rcases ha3 with h | h
          · exact .inl (h ▸ hk)
          · rw [hk] at h
            exact .inr (by have := Option.some.inj h; omega)
        have keepN : ∀ u, Nm wr w.heap.size u T ∧ Ap u (Value.slice aov (n + q) capv) → Nm w3 w.heap.size u T ∧ Ap u (Value.slice ao3 (n + q + 1) cap3) := fun u ⟨n1, n2⟩ => by
          refine ⟨((n1.grown (grown_later hb2) (fun _ e => by cases e)).grown (grown_later hal) (fun _ e => by cases e)).grown hg3 (fun k e hk => n2 k hk e), fun k h3 h4 => ?_⟩
          rcases hv3 k h4 with h | h
          · exact n2 k h3 h
          · have := (n1.2 k h3).2
            omega
        refine ⟨q + 1, by omega, by go_num, ⟨us ++ [.slice ua T.length uc], ho3, fun i hi hik => ?_⟩, fun k hk => ?_, ((HF2.out.grown (grown_later hb2) (fun _ _ e => by cases e)).alloc _).grown hg3 (fun k hk e => ?_)⟩
        · by_cases e : i < us.length
          · rw [List.getElem_append_left e]
            exact keepN _ (h2 i e (by omega))
          · rw [List.getElem_append_right (by omega)]
            simp only [List.getElem_singleton]
            have hN2 : Nm w2 w.heap.size (.slice ua T.length uc) T := ⟨hbs, fun k hk => ⟨by have := (hblk k hk).1; omega, (hblk k hk).2⟩⟩
            refine ⟨(hN2.grown (grown_later hal) (fun _ e => by cases e)).grown hg3 (fun k e hk => ?_), fun k h3 h4 => ?_⟩
            · have := (h1.lt k e).2
              have := (hblk k hk).1
              omega
            · have h5 := hblk k h3
              rcases hv3 k h4 with h | h
              · have := (h1.lt k h).2
                omega
              · omega
        · rcases hv3 k hk with h | h
          · exact HBL.out k h
          · exact .inr (by omega)
        · rcases HBL.out k e with h | h
          · exact .inl h.symm
          · omega
      case measure => simp [intOf]; omega
    · have e1 : ¬ (q : Int) < 64 := by omega
      obtain rfl : q = 64 := by omega
      clear h1 h2
      go_wp2_with fail
      go_ret
      exact ⟨_, rfl, HW2.out, HBL.out, HF2.out⟩
end Go.Proofs.Ytkohlhnkaklnpaa
