/-
  Verify: the document's Depths.
-/
import Derived.Test.YtfkhhplcogedmaaGreatDoorVdE
import Derived.Deep.MidRow
namespace Go.Proofs.YtfkhhplcogedmaaGreatDoor
open Go.RowKit
set_option maxRecDepth 100000
/-- What is found so far of the least depth: looked at from 64 down to k. -/
def LowT (t : Nat → Bool) (k : Nat) (d : Int) : Prop := (d = -1 ∧ ∀ e, k ≤ e → e < 65 → t e = false) ∨ ∃ n : Nat, d = (n : Int) ∧ k ≤ n ∧ n < 65 ∧ t n = true ∧ ∀ e, k ≤ e → e < n → t e = false
theorem LowT.start (t : Nat → Bool) : LowT t 65 (-1) := .inl ⟨rfl, fun e h1 h2 => absurd h2 (by omega)⟩
theorem LowT.yes {t : Nat → Bool} {k : Nat} (h : t k = true) (hk : k < 65) : LowT t k (k : Int) := .inr ⟨k, rfl, Nat.le_refl _, hk, h, fun e h1 h2 => absurd h2 (by omega)⟩
theorem LowT.no {t : Nat → Bool} {k : Nat} {d : Int} (h : LowT t (k + 1) d) (hk : t k = false) : LowT t k d := by
  rcases h with ⟨h1, h2⟩ | ⟨n, h1, h2, h3, h4, h5⟩
  · refine .inl ⟨h1, fun e e1 e2 => ?_⟩
    by_cases c : e = k
    · subst c; exact hk
    · exact h2 e (by omega) e2
  · refine .inr ⟨n, h1, by omega, h3, h4, fun e e1 e2 => ?_⟩
    by_cases c : e = k
    · subst c; exact hk
    · exact h5 e (by omega) e2
theorem LowT.done {fs : List Rt} {c : List Ins} {T : Nat → Nat → Bool} {p : Nat} {d : Int} (h : LowT (T p) 0 d) (hT : ∀ p d, T p d = true ↔ Rch fs c p d) (h0 : 0 < c.length) : (d = -1 ∧ ¬ Rcd fs c p) ∨ ∃ n : Nat, d = (n : Int) ∧ n < 65 ∧ Rch fs c p n := by
  rcases h with ⟨h1, h2⟩ | ⟨n, h1, -, h3, h4, -⟩
  · refine .inl ⟨h1, fun ⟨e, he⟩ => ?_⟩
    have := h2 e (by omega) (by have := (he.lt h0).2; omega)
    rw [(hT p e).2 he] at this
    cases this
  · exact .inr ⟨n, h1, h3, (hT p n).1 h4⟩
theorem tm_range {W : World} {g n p : Nat} {T : Nat → Nat → Bool} (h : Tm W g n T) (hp : p < n) : W.rangeAt g (p * 65) (dArr (T p)).toList := fun j v hj => by
  have hj2 := (List.getElem?_eq_some_iff.1 hj).1
  rw [Array.length_toList, dArr_size] at hj2
  rw [(h.at hp hj2).1]
  rw [Array.getElem?_toList, dArr_at _ _ hj2] at hj
  exact hj
/-- What the document answers. -/
def DDout (B : Nat) (fs : List Rt) (c : List Ins) (w' : World) (e : Ending) : Prop := ∃ v at_ er l, e = .returned (.tuple #[v, .int .i64 at_, .int .i64 er]) ∧ DA fs c at_ er l ∧ w'.ownsRow B 3 1 v l.length (zq l)
theorem one_nl (W : World) (x : Int) (hx : I6 x) : Nl (fun _ => True) (W.alloc (.cells #[.int .i64 x] 3)) (.slice (some ⟨W.heap.size, 0, none⟩) 1 1) [x] := by
  have k : ∀ j, (W.alloc (.cells #[.int .i64 x] 3)).cell? ⟨W.heap.size, j, none⟩ = (#[Value.int .i64 x] : Array Value)[j]? := fun j => cell_of_row _ _ _ _ 3 (0, 0) (heap_alloc_new W _)
  refine ⟨_, 1, rfl, Nat.le_refl 1, by decide, fun _ => ⟨_, 0, rfl, trivial, fun i hi => ?_⟩⟩
  match i, hi with
  | 0, _ => exact ⟨hx, k 0⟩
theorem zq_range (f : Nat → Int) (i : Nat) : zq ((List.range i).map f) ++ zq [f i] = zq ((List.range (i + 1)).map f) := by
  simp [zq, List.range_succ]
/-- What the document's walk over the instructions holds. -/
structure Dwd (w : World) (B gp gT n : Nat) (vs vf : Value) (fs : List Rt) (c : List Ins) (T : Nat → Nat → Bool) (i : Nat) (v : Value) (W : World) : Prop where
  own : W.ownsRow B 3 1 v i (zq ((List.range i).map fun p => dpR fs c p))
  b : Below w.heap.size w W
  tm : Tm W gT n T
  pr : W.heap[gp]? = some (.cells #[vs, vf] 25 (0, 0))
  ok : ∀ p, p < i → Rcd fs c p → wrR 150 151 153 fs c p = 0
theorem Dwd.later {w W W' : World} {B gp gT n i : Nat} {vs vf v : Value} {fs : List Rt} {c : List Ins} {T : Nat → Nat → Bool} (h : Dwd w B gp gT n vs vf fs c T i v W) (hb : Below W.heap.size W W') : Dwd w B gp gT n vs vf fs c T i v W' := ⟨own_later h.own hb, below_on h.b hb, h.tm.later hb, (hb.block _ (lt_of_block h.pr)).trans h.pr, h.ok⟩
theorem Dwd.put {w W W' : World} {B gp gT n i : Nat} {vs vf v v' : Value} {fs : List Rt} {c : List Ins} {T : Nat → Nat → Bool} (h : Dwd w B gp gT n vs vf fs c T i v W) (hB : B = w.heap.size) (hg : W.grownBy W' v.ownBlock) (ho : W'.ownsRow B 3 1 v' (i + 1) (zq ((List.range (i + 1)).map fun p => dpR fs c p))) (hok : Rcd fs c i → wrR 150 151 153 fs c i = 0) : Dwd w B gp gT n vs vf fs c T (i + 1) v' W' := by
  have k : ∀ {g t : Nat} {cs : Array Value}, W.heap[g]? = some (.cells cs t (0, 0)) → t ≠ 3 → W'.heap[g]? = some (.cells cs t (0, 0)) := fun {g t cs} hg' ht => by
    refine (hg.block g (lt_of_block hg') (fun e => ?_)).trans hg'
    obtain ⟨ds, hd⟩ := own_blk2 h.own e.symm
    rw [hg'] at hd
    injection hd with hd
    injection hd with h1 h2
    exact ht h2
  obtain ⟨cs, e1, e2⟩ := h.tm
  refine ⟨ho, h.b.grown hg h.b.size (fun j e => by have := (h.own.lt j e).1; omega), ⟨cs, k e1 (by decide), e2⟩, k h.pr (by decide), fun p hp hr => ?_⟩
  by_cases e : p = i
  · subst e
    exact hok hr
  · exact h.ok p (by omega) hr
set_option maxHeartbeats 8000000 in
theorem ddepths_any {Q : Nat → Prop} {w : World} {vs vf vc : Value} {c : List Ins} {fs : List Rt} (nm : ByteArray) (pa lo : Int) (hs : ∃ a n c, vs = .slice a n c) (h : Il Q w vc c) (hf : Rts Q w vf fs) : Calls Tryz.prog 36 #[.agg #[vs, vf], .agg #[.string nm, .int .i64 pa, .int .i64 lo, vc]] w fun e w' => DDout w.heap.size fs c w' e ∧ Below w.heap.size w w' := by
  have JR : Hid (∀ W, Below w.heap.size w W → 0 < c.length → c.length ≤ 2000 → Calls Tryz.prog 61 #[vc, vf] W fun e w' => ∃ T, e = .returned (.slice (some ⟨W.heap.size, 0, none⟩) c.length c.length) ∧ Tm w' W.heap.size c.length T ∧ (∀ p d, T p d = true ↔ Rch fs c p d) ∧ Below W.heap.size W w') := fun W hW h0 hc => dreached_any (h.later hW) (hf.later hW) h0 hc
  have JW : Hid (∀ W (T : Nat → Nat → Bool) p, Below w.heap.size w W → c.length ≤ 2000 → (∀ p d, T p d = true ↔ Rch fs c p d) → p < c.length → Calls Tryz.prog 62 #[vc, .int .i64 ((p : Nat) : Int), .agg (dArr (T p)), vf] W fun e w' => e = .returned (.int .i64 (wrR 150 151 153 fs c p)) ∧ Below W.heap.size W w') := fun W T p hW hc hT hp => dwrong_any (h.later hW) (hf.later hW) hc hT p hp
  obtain ⟨ao, co, rfl, h1, h2⟩ := h.at
  obtain ⟨af, cf, rfl, -, -, -⟩ := hf
  obtain ⟨as', ns, cs, rfl⟩ := hs
  obtain ⟨n, hn⟩ : ∃ n, n = c.length := ⟨_, rfl⟩
  obtain ⟨nf, hnf⟩ : ∃ n, n = fs.length := ⟨_, rfl⟩
  rw [← hn, ← hnf] at JR JW
  rw [← hn] at h1 ⊢
  rw [← hnf]
  have HN := hide hn
  clear h hn hnf
  obtain ⟨w0, hw0⟩ : ∃ X, X = (w.alloc (.cells #[.slice as' ns cs, .slice af nf cf] 25)).alloc (.cells #[.string nm, .int .i64 pa, .int .i64 lo, .slice ao n co] 35) := ⟨_, rfl⟩
  have B0 : Hid (Below w.heap.size w w0) := by unfold Hid; rw [hw0]; exact below_on (below_alloc w _) (below_alloc _ _)
  have hb : w0.heap[w.heap.size]? = some (.cells #[.slice as' ns cs, .slice af nf cf] 25 (0, 0)) := by
    rw [hw0]
    exact ((below_alloc (w.alloc (.cells #[.slice as' ns cs, .slice af nf cf] 25)) _).block w.heap.size (by simp)).trans (heap_alloc_new w _)
  have hb' : w0.heap[w.heap.size + 1]? = some (.cells #[.string nm, .int .i64 pa, .int .i64 lo, .slice ao n co] 35 (0, 0)) := by
    rw [hw0]
    have := heap_alloc_new (w.alloc (.cells #[.slice as' ns cs, .slice af nf cf] 25)) (.cells #[.string nm, .int .i64 pa, .int .i64 lo, .slice ao n co] 35)
    simpa using this
  have c1 : w0.cell? ⟨w.heap.size, 1, none⟩ = some (.slice af nf cf) := by rw [cell_of_row _ _ _ _ 25 (0, 0) hb]; rfl
  have c2 : w0.cell? ⟨w.heap.size + 1, 3, none⟩ = some (.slice ao n co) := by rw [cell_of_row _ _ _ _ 35 (0, 0) hb']; rfl
  obtain ⟨gp, hgp⟩ : ∃ x, x = w.heap.size := ⟨_, rfl⟩
  obtain ⟨gr, hgr⟩ : ∃ x, x = w.heap.size + 1 := ⟨_, rfl⟩
  rw [← hgr] at c2
  rw [← hgp] at c1 hb
  have PR := hide hb
  have HGP := hide hgp
  go_enter Tryz.func36, Tryz.ntmps36
  go_upto_region 1 with fail
  rw [← hw0, ← hgr, ← hgp]
  clear hw0 hgr hgp hb hb'
  by_cases cn : (n : Int) > 2000
  · have HO : Hid (2000 < c.length) := by have := HN.out; unfold Hid; omega
    go_wp2_with fail
    go_ret3
    exact ⟨⟨_, 0, 130, [], rfl, .inl ⟨HO.out, rfl, rfl, rfl⟩, World.ownsRow_nil _ _ _ _⟩, B0.out⟩
  by_cases c0 : n = 0
  · have HO : Hid (c = []) := List.eq_nil_of_length_eq_zero (by have := HN.out; omega)
    subst c0
    go_wp2_with fail
    go_ret3
    exact ⟨⟨_, 0, 153, [], rfl, .inr (.inl ⟨HO.out, rfl, rfl, rfl⟩), World.ownsRow_nil _ _ _ _⟩, B0.out⟩
  have t0 : ((n : Int) == 0) = false := beq_eq_false_iff_ne.2 (by omega)
  have hn2 : n ≤ 2000 := by omega
  have HC : Hid (c.length ≤ 2000 ∧ c ≠ [] ∧ 0 < c.length) := by have := HN.out; exact ⟨by omega, fun e => c0 (by rw [this, e]; rfl), by omega⟩
  have J1 := hide (JR.out w0 B0.out (by omega) hn2)
  go_upto_region 6 with fail
  go_wp2_with fail
  refine J1.out.mono ?_
  rintro e w1 ⟨T, rfl, htm, hT, b1⟩
  have HT := hide hT
  obtain ⟨gT, hgT⟩ : ∃ x, x = w0.heap.size := ⟨_, rfl⟩
  rw [← hgT] at htm ⊢
  have DW0 : Hid (Dwd w gp gp gT n (.slice as' ns cs) (.slice af nf cf) fs c T 0 (.slice none 0 0) w1) := ⟨World.ownsRow_nil _ _ _ _, below_on B0.out b1, htm, (b1.block gp (lt_of_block PR.out)).trans PR.out, fun p hp => absurd hp (by omega)⟩
  clear hT htm b1 hgT J1 c1 c2 PR JR
  go_wp2_with fail
  go_loopw [9, 10] (fun v9 v10 W => ∃ i : Nat, i ≤ n ∧ v10 = .int .i64 (i : Int) ∧ Hid (Dwd w gp gp gT n (.slice as' ns cs) (.slice af nf cf) fs c T i v9 W)) (fun _ v10 _ => n - (intOf v10).toNat)
  case atStart => exact ⟨0, Nat.zero_le _, rfl, DW0⟩
  case round =>
    obtain ⟨i, hi, rfl, HD⟩ := hrel
    clear DW0
    obtain ⟨a9, c9, rfl⟩ := own_len HD.out.own
    obtain ⟨q1, q2⟩ := own_cap HD.out.own
    by_cases hlt : i < n
    · have hii : (i : Int) < (n : Int) := by omega
      obtain ⟨wQ, hwQ⟩ : ∃ X, X = wr := ⟨_, rfl⟩
      rw [← hwQ] at HD ⊢
      clear hwQ
      have HTC : Hid (∀ k, k < 65 → wQ.cell? ⟨gT, i * 65 + k, none⟩ = some (.bool (T i k))) := fun k hk => (HD.out.tm.at hlt hk).1
      go_wp2_with fail
      go_loopw [11, 12] (fun v11 v12 W => ∃ (k : Nat) (d : Int), k ≤ 65 ∧ v12 = .int .i64 ((k : Int) - 1) ∧ v11 = .int .i64 d ∧ Hid (LowT (T i) k d) ∧ W = wQ) (fun _ v12 _ => (intOf v12 + 1).toNat)
      case atStart => exact ⟨65, -1, by omega, rfl, rfl, LowT.start _, rfl⟩
      case round =>
        obtain ⟨k, d, hk, rfl, rfl, HLW, hW⟩ := hrel
        subst hW
        by_cases hk0 : k = 0
        · subst hk0
          rcases HLW.out.done HT.out HC.out.2.2 with ⟨rfl, hnr⟩ | ⟨m, rfl, hm, hrc⟩
          · have HOK : Hid (Rcd fs c i → wrR 150 151 153 fs c i = 0) := fun e => absurd e hnr
            have HDP : Hid (dpR fs c i = -1) := dpR_no hnr
            clear hnr HLW HTC
            obtain ⟨WX, hWX⟩ : ∃ X, X = wr := ⟨_, rfl⟩
            rw [← hWX] at HD ⊢
            clear hWX
            have hdd : -1 ≤ (-1 : Int) ∧ (-1 : Int) ≤ 64 := by omega
            have HX : Hid (I6 (-1)) := by unfold Hid I6; omega
            have BA := hide (below_alloc WX (.cells #[.int .i64 (-1)] 3))
            have HDA := hide (HD.out.later BA.out)
            go_wp2_with (at_builtin; refine appendNl rfl _ _ rfl gp _ i (zq ((List.range i).map fun p => dpR fs c p)) rfl ?a1 _ [(-1)] rfl (one_nl WX (-1) HX.out) ?a2 ?a3 ?_)
            case a1 => exact HDA.out.own
            case a2 => show i + 1 ≤ _; omega
            case a3 => rw [HGP.out]; exact HDA.out.b.size
            intro v9 w9 ho9 hg9
            have RN : Hid (Dwd w gp gp gT n (.slice as' ns cs) (.slice af nf cf) fs c T (i + 1) v9 w9) := by
              refine HDA.out.put HGP.out hg9 ?_ HOK.out
              rw [← zq_range, HDP.out]
              exact ho9
            obtain ⟨a8, c8, rfl⟩ := own_len RN.out.own
            clear ho9 hg9 HDA BA HD
            go_wp2_with fail
            go_roundw
            case rel => exact ⟨i + 1, by omega, by go_num, RN⟩
            case measure => simp [intOf]; omega
          · have HRC := hide hrc
            have J2 := hide (JW.out wr.drew T i (below_on HD.out.b (below_drew wr)) hn2 HT.out hlt)
            obtain ⟨wv, hwv⟩ : ∃ x, x = wrR 150 151 153 fs c i := ⟨_, rfl⟩
            have HWV := hide hwv
            rw [← hwv] at J2
            obtain ⟨C, hC⟩ : ∃ C, C = (List.range 65).map fun d => Value.bool (T i d) := ⟨_, rfl⟩
            have hCA : dArr (T i) = C.toArray := by rw [hC]; rfl
            rw [hCA] at J2
            have hinfo : (Tryz.prog.info? 129).map (·.size) = some C.length := by rw [hC, List.length_map, List.length_range]; kernel_rfl
            have hund := Tryz.underlying129
            have SX : Hid (∀ V, Below wr.heap.size wr V → V.rangeAt gT (i * 65) C ∧ V.cell? ⟨gp, 1, none⟩ = some (.slice af nf cf)) := fun V hV => by
              have hD := HD.out.later hV
              refine ⟨?_, by rw [cell_of_row V _ _ _ 25 (0, 0) hD.pr]; rfl⟩
              have := tm_range hD.tm hlt
              rw [hCA] at this
              exact this
            have S0 := hide (SX.out wr.drew (below_drew wr))
            clear hwv hC hCA hrc HLW HTC
            go_upto_region 18 with fail
            go_region_held3 (fun V => V.rangeAt gT (i * 65) C ∧ V.cell? ⟨gp, 1, none⟩ = some (.slice af nf cf)) (first | exact S0.out | exact S1) ((go_at_call 62; refine J2.out.mono ?_; rintro e w5 ⟨rfl, b5⟩; have B5 := hide (below_on (below_drew wr) b5); have S1 := SX.out w5 B5.out; clear b5))
            have HD5 := hide (HD.out.later B5.out)
            clear S0 S1 SX J2 hinfo hund HD B5
            by_cases hw0 : wv = 0
            · have hwr : wrR 150 151 153 fs c i = 0 := by rw [← HWV.out]; exact hw0
              have HOK : Hid (Rcd fs c i → wrR 150 151 153 fs c i = 0) := fun _ => hwr
              have HDP : Hid (dpR fs c i = (m : Int)) := (wrR_ok (by decide) (by decide) (by decide) HRC.out hwr).2.1
              subst hw0
              obtain ⟨WX, hWX⟩ : ∃ X, X = w5 := ⟨_, rfl⟩
              rw [← hWX] at HD5 ⊢
              have HD := HD5
              clear hWX hwr HD5
              have HX : Hid (I6 (m : Int)) := by unfold Hid I6; omega
              have BA := hide (below_alloc WX (.cells #[.int .i64 (m : Int)] 3))
              have HDA := hide (HD.out.later BA.out)
              go_wp2_with (at_builtin; refine appendNl rfl _ _ rfl gp _ i (zq ((List.range i).map fun p => dpR fs c p)) rfl ?a1 _ [(m : Int)] rfl (one_nl WX (m : Int) HX.out) ?a2 ?a3 ?_)
              case a1 => exact HDA.out.own
              case a2 => show i + 1 ≤ _; omega
              case a3 => rw [HGP.out]; exact HDA.out.b.size
              intro v9 w9 ho9 hg9
              have RN : Hid (Dwd w gp gp gT n (.slice as' ns cs) (.slice af nf cf) fs c T (i + 1) v9 w9) := by
                refine HDA.out.put HGP.out hg9 ?_ HOK.out
                rw [← zq_range, HDP.out]
                exact ho9
              obtain ⟨a8, c8, rfl⟩ := own_len RN.out.own
              clear ho9 hg9 HDA BA HD
              go_wp2_with fail
              go_roundw
              case rel => exact ⟨i + 1, by omega, by go_num, RN⟩
              case measure => simp [intOf]; omega
            · have t5 : ((wv : Int) == 0) = false := beq_eq_false_iff_ne.2 hw0
              have t6 : ((wv : Int) != 0) = true := by simp [hw0]
              have HF : Hid (DDout w.heap.size fs c w5 (.returned (.tuple #[.slice none 0 0, .int .i64 (i : Int), .int .i64 wv]))) := by
                refine ⟨_, (i : Int), wv, [], rfl, .inr (.inr (.inl ⟨HC.out.1, HC.out.2.1, i, ⟨by have := HN.out; omega, ⟨⟨m, HRC.out⟩, by rw [← HWV.out]; exact hw0⟩, fun j hj e => e.2 (HD5.out.ok j hj e.1)⟩, rfl, HWV.out, rfl⟩)), World.ownsRow_nil _ _ _ _⟩
              have BF := hide HD5.out.b
              clear HD5 hw0
              go_wp2_with fail
              go_ret3
              exact ⟨HF.out, BF.out⟩
        · obtain ⟨k, rfl⟩ : ∃ x, k = x + 1 := ⟨k - 1, by omega⟩
          have ek : (((k + 1 : Nat) : Int) - 1) = (k : Int) := by omega
          rw [ek]
          have f0 := HTC.out k (by omega)
          have hki : (k : Int) < 65 := by omega
          cases hT0 : T i k with
          | true =>
            rw [hT0] at f0
            have HL2 : Hid (LowT (T i) k (k : Int)) := LowT.yes hT0 (by omega)
            clear ek HLW
            go_wp2_with fail
            go_roundw
            case rel => exact ⟨k, _, by omega, by go_num, rfl, HL2, trivial⟩
            case measure => simp [intOf]
          | false =>
            rw [hT0] at f0
            have HL2 : Hid (LowT (T i) k d) := HLW.out.no hT0
            clear ek HLW
            go_wp2_with fail
            go_roundw
            case rel => exact ⟨k, _, by omega, by go_num, rfl, HL2, trivial⟩
            case measure => simp [intOf]
    · have hii : ¬ (i : Int) < (n : Int) := by omega
      obtain rfl : i = n := by omega
      have HF : Hid (DDout w.heap.size fs c wr (.returned (.tuple #[.slice a9 i c9, .int .i64 0, .int .i64 0]))) := by
        have ho := HD.out.own
        refine ⟨_, 0, 0, (List.range c.length).map fun p => dpR fs c p, rfl, .inr (.inr (.inr ⟨HC.out.1, HC.out.2.1, fun p hp e => e.2 (HD.out.ok p (by have := HN.out; omega) e.1), rfl, rfl, rfl⟩)), ?_⟩
        rw [List.length_map, List.length_range, ← HN.out, ← HGP.out]
        exact ho
      have BF := hide HD.out.b
      clear HD
      go_wp2_with fail
      go_ret3
      exact ⟨HF.out, BF.out⟩
end Go.Proofs.YtfkhhplcogedmaaGreatDoor
