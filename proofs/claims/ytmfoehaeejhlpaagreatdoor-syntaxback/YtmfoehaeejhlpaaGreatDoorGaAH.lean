import Derived.Test.YtmfoehaeejhlpaaGreatDoorGaAG
import Derived.Test.YtmfoehaeejhlpaaGreatDoorGaAF
/-
  The reader: list, of what function 201 reads.
-/
namespace Go.Proofs.YtmfoehaeejhlpaaGreatDoor
open Go.RowKit Yn
set_option maxRecDepth 100000
/-- A list of trees in memory that is new since W. -/
def isList (W : World) : List Tree → Value → World → Prop := fun l v W' => ∃ ps, W'.ownsRow 0 23 1 v l.length ps ∧ (∀ q, v.ownBlock = some q → W.heap.size ≤ q) ∧ Nds (fun q => W.heap.size ≤ q ∧ v.ownBlock ≠ some q) W' l ps
set_option maxHeartbeats 8000000 in
theorem listC_any {n : Nat} (hn : n ≤ 1000000) (hI : ∀ m, m ≤ n → Cc m) {W : World} {B k : Nat} {ws : List ByteArray} {s0 : S} (hR : Rd W B k ws s0) (x : ByteArray) (hne : listS (Yn.cond ws) n x s0 ≠ .out) : Calls Tryz.prog 202 #[.pointer (some ⟨k, 0, none⟩), .string x, .func (.func 201) #[] #[]] W (Out (isList W) W B k ws (listS (Yn.cond ws) n x s0)) := by
  obtain ⟨i0, hi0, hz0, hz1, hz2⟩ := info_parts infoN
  have HI := hide hI
  have hkW := hR.lt
  have J1 := hide (isAt_any hR x)
  have H := hide hR
  obtain ⟨r, hr⟩ : ∃ r, r = listS (Yn.cond ws) n x s0 := ⟨_, rfl⟩
  rw [← hr] at hne ⊢
  have HNE := hide hne
  unfold listS at hr
  clear hI hR hne
  cases b : isAt s0 x with
  | true =>
    rw [b] at J1 hr
    have ER : r = .ok [] s0 := hr
    clear hr b
    go_enter Tryz.func202, Tryz.ntmps202
    go_wp2_with fail
    refine J1.out.mono ?_
    rintro e w1 ⟨rfl, hb1⟩
    have HB1 := hide hb1
    clear hb1 J1
    go_wp2_with fail
    go_ret
    subst ER
    exact ⟨_, rfl, ⟨[], World.ownsRow_nil _ _ _ _, fun q e => by simp [Value.ownBlock] at e, Nds.none⟩, H.out.later HB1.out, Mv.of_below HB1.out _⟩
  | false =>
    rw [b] at J1 hr
    have HE0 : Hid (r = (Yn.cond ws n s0).bind fun y s => items (Yn.cond ws) n [y] s) := hr
    clear hr b
    go_enter Tryz.func202, Tryz.ntmps202
    go_wp2_with fail
    refine J1.out.mono ?_
    rintro e w1 ⟨rfl, hb1⟩
    have HB1 := hide hb1
    clear hb1 J1
    go_wp2_with fail
    cases hq : Yn.cond ws n s0 with
    | out => exact absurd (show r = .out by rw [HE0.out, hq]; rfl) HNE.out
    | no a er =>
      have J := HI.out n (Nat.le_refl _) w1 B k ws s0 (H.out.later HB1.out) (by rw [hq]; intro h; cases h)
      rw [hq] at J
      refine J.mono ?_
      rintro e w2 hp
      have hp2 := Pn.from hp (Mv.of_below HB1.out (fun j => j = k))
      obtain ⟨q, rfl, -⟩ := hp
      have ER : r = .no a er := by rw [HE0.out, hq]; rfl
      subst ER
      exact ⟨rfl, hp2⟩
    | ok y s1 =>
      have J := HI.out n (Nat.le_refl _) w1 B k ws s0 (H.out.later HB1.out) (by rw [hq]; intro h; cases h)
      rw [hq] at J
      have HE : Hid (r = items (Yn.cond ws) n [y] s1) := by
        unfold Hid
        rw [HE0.out, hq]
        rfl
      clear hq HE0
      refine J.mono ?_
      rintro e w2 ⟨v2, rfl, ht2, hr2, hm2⟩
      obtain ⟨g2, rfl⟩ := Nd.ptr ht2
      have hz2' := HB1.out.size
      have hz3' := hm2.size
      obtain ⟨w3, hw3⟩ : ∃ X, X = w2.alloc (.cells #[.pointer (some ⟨g2, 0, none⟩)] 23) := ⟨_, rfl⟩
      have b3 : Below w2.heap.size w2 w3 := hw3 ▸ below_alloc w2 _
      have O3 : Hid (w3.ownsRow 0 23 1 (.slice (some ⟨w2.heap.size, 0, none⟩) 1 1) 1 [.pointer (some ⟨g2, 0, none⟩)]) := by
        rw [hw3]
        exact World.ownsRow_lit w2 #[.pointer (some ⟨g2, 0, none⟩)] 1 (Nat.zero_le _) (by unfold maxLen; omega) rfl
      have R3 := hide (hr2.later b3)
      have M3 := hide (((Mv.of_below HB1.out (fun j => j = k)).trans hm2 (fun _ _ e => e)).later b3)
      have T3 : Hid (Nds (fun q => W.heap.size ≤ q ∧ q ≠ w2.heap.size) w3 [y] [.pointer (some ⟨g2, 0, none⟩)]) := by
        unfold Hid
        rw [Nds]
        exact ⟨_, _, rfl, Nd.mv (Mv.of_below b3 (fun _ => False)) (fun _ _ e => e) _ _ (Nd.mono (fun q hq => ⟨by have : w1.heap.size ≤ q := hq.1; omega, by have := hq.2; omega⟩) _ _ (Nd.tight _ _ ht2)), Nds.none⟩
      obtain ⟨k3, hk3⟩ : ∃ q, q = w2.heap.size := ⟨_, rfl⟩
      have HK3 : Hid (W.heap.size ≤ k3) := by unfold Hid; omega
      have HW3 := hide hw3
      rw [← hk3] at O3 T3
      clear hr2 hm2 ht2 J b3 hw3
      go_wp2_with fail
      rw [← HW3.out, ← hk3]
      clear hk3 HW3 HB1
      go_loopg [7] n (fun G v7 Wr => ∃ (m : Nat) (l : List Tree) (s : S) (ps : List Value), G = m ∧ m ≤ n ∧ l.length + m ≤ n + 1 ∧ Hid (r = items (Yn.cond ws) m l s) ∧ Hid (Wr.ownsRow 0 23 1 v7 l.length ps) ∧ Hid (∀ q, v7.ownBlock = some q → W.heap.size ≤ q) ∧ Hid (Nds (fun q => W.heap.size ≤ q ∧ v7.ownBlock ≠ some q) Wr l ps) ∧ Hid (Rd Wr B k ws s) ∧ Hid (Mv W Wr (fun j => j = k)))
      case atStart => exact ⟨n, [y], s1, _, rfl, Nat.le_refl _, by simp; omega, HE, O3, fun q e => by have e' : k3 = q := Option.some.inj e; have := HK3.out; omega, Nds.mono (fun q hq => ⟨hq.1, fun e => hq.2 (Option.some.inj e).symm⟩) _ _ T3.out, R3, M3⟩
      case round =>
        clear HE O3 T3 R3 M3 HK3
        obtain ⟨m0, l, s, ps, hG, hmn, hlm, HEm, HO, HK, HT, HRr, HM⟩ := hrel
        obtain ⟨m, rfl⟩ : ∃ m', m0 = m' + 1 := by
          cases m0 with
          | zero => exact absurd (by rw [HEm.out, items]) HNE.out
          | succ m' => exact ⟨m', rfl⟩
        have he := HEm.out
        rw [items] at he
        have HE1 := hide he
        have J2 := hide (takeIf_any HRr.out cCom (by decide))
        obtain ⟨a7, c7, rfl⟩ := own_len HO.out
        have hcap := own_cap HO.out
        clear he HEm
        cases b2 : isAt s cCom with
        | false =>
          rw [b2] at J2
          have ER : r = .ok l s := by rw [HE1.out, b2]; rfl
          simp only [Bool.false_eq_true, if_false] at J2
          clear b2
          go_wp2_with fail
          refine J2.out.mono ?_
          rintro e w4 ⟨rfl, hr4, hm4⟩
          have R4 := hide hr4
          have M4 := hide (HM.out.trans hm4 (fun _ _ e => e))
          have O4 := hide (hm4.own HO.out (fun q e (e2 : q = k) => by have := HK.out q e; omega))
          have T4 := hide (Nds.mv hm4 (fun q hq (e : q = k) => by have : W.heap.size ≤ q := hq.1; omega) _ _ HT.out)
          clear hr4 hm4 J2
          go_wp2_with fail
          go_ret
          subst ER
          exact ⟨_, rfl, ⟨ps, O4.out, HK.out, T4.out⟩, R4.out, M4.out⟩
        | true =>
          rw [b2] at J2
          have HE2 : Hid (r = (Yn.cond ws m (nx s)).bind fun x s => items (Yn.cond ws) m (l ++ [x]) s) := by
            unfold Hid
            rw [HE1.out, b2]
            rfl
          simp only [if_true] at J2
          clear b2 HE1
          go_wp2_with fail
          refine J2.out.mono ?_
          rintro e w4 ⟨rfl, hr4, hm4⟩
          have R4 := hide hr4
          have M4 := hide (HM.out.trans hm4 (fun _ _ e => e))
          have O4 := hide (hm4.own HO.out (fun q e (e2 : q = k) => by have := HK.out q e; omega))
          have T4 := hide (Nds.mv hm4 (fun q hq (e : q = k) => by have : W.heap.size ≤ q := hq.1; omega) _ _ HT.out)
          have hz4 := M4.out.size
          clear hr4 hm4 J2 HO HT HRr HM
          go_wp2_with fail
          cases hq : Yn.cond ws m (nx s) with
          | out => exact absurd (show r = .out by rw [HE2.out, hq]; rfl) HNE.out
          | no a er =>
            have J := HI.out m (by omega) w4 B k ws (nx s) R4.out (by rw [hq]; intro h; cases h)
            rw [hq] at J
            refine J.mono ?_
            rintro e w5 hp
            have hp2 := Pn.from hp M4.out
            obtain ⟨q, rfl, -⟩ := hp
            have ER : r = .no a er := by rw [HE2.out, hq]; rfl
            subst ER
            exact ⟨rfl, hp2⟩
          | ok z s2 =>
            have J := HI.out m (by omega) w4 B k ws (nx s) R4.out (by rw [hq]; intro h; cases h)
            rw [hq] at J
            have HE3 : Hid (r = items (Yn.cond ws) m (l ++ [z]) s2) := by
              unfold Hid
              rw [HE2.out, hq]
              rfl
            clear hq HE2
            refine J.mono ?_
            rintro e w5 ⟨v5, rfl, ht5, hr5, hm5⟩
            obtain ⟨g5, rfl⟩ := Nd.ptr ht5
            have R5 := hide hr5
            have M5 := hide (M4.out.trans hm5 (fun _ _ e => e))
            have O5 := hide (hm5.own O4.out (fun q e (e2 : q = k) => by have := HK.out q e; omega))
            have OL := hide O4.out.lt
            have T5 := hide (Nds.mv hm5 (fun q hq (e : q = k) => by have : W.heap.size ≤ q := hq.1.1; omega) _ _ (Nds.tight _ _ T4.out))
            have Z5 := hide (Nd.tight _ _ ht5)
            have hz5 := hm5.size
            clear hr5 hm5 ht5 J T4 O4
            go_wp2_with (at_builtin; refine wpList_append_own_at _ rfl _ _ 49 rfl 0 23 i0 (.pointer none) 1 8 und49 hi0 hz0 hz1 hz2 rfl (by decide) _ l.length ps rfl (O5.out.alloc _) ⟨w5.heap.size, 0, none⟩ 1 1 [.pointer (some ⟨g5, 0, none⟩)] rfl rfl ?c1 ?c2 (by unfold maxLen; omega) (by omega) (Nat.zero_le _) ?_)
            case c1 =>
              intro j u hj
              match j, hj with
              | 0, hj => simp at hj; subst hj; simp [Addr.add]
            case c2 =>
              intro u hu
              simp at hu
              subst hu
              rfl
            intro v9 w9 ho9 hg9 _ ha9
            have b6 := below_alloc w5 (.cells #[.pointer (some ⟨g5, 0, none⟩)] 23)
            have hm9 : Mv w5 w9 (fun q => (Value.slice a7 l.length c7).ownBlock = some q) := ((Mv.refl w5 (fun q => (Value.slice a7 l.length c7).ownBlock = some q)).later b6).grown hg9 (fun q _ e => e)
            have hv9 : ∀ q, v9.ownBlock = some q → (Value.slice a7 l.length c7).ownBlock = some q ∨ q = w5.heap.size + 1 := fun q e => by
              rcases ha9 with c | c
              · rw [c] at e
                exact .inl e
              · rw [c] at e
                have := Option.some.inj e
                right
                exact this.symm
            have O9 : Hid (w9.ownsRow 0 23 1 v9 (l ++ [z]).length (ps ++ [.pointer (some ⟨g5, 0, none⟩)])) := by
              unfold Hid
              rw [List.length_append]
              exact ho9
            have K9 : Hid (∀ q, v9.ownBlock = some q → W.heap.size ≤ q) := fun q e => by
              rcases hv9 q e with c | c
              · exact HK.out q c
              · have := M5.out.size
                omega
            have T9 : Hid (Nds (fun q => W.heap.size ≤ q ∧ v9.ownBlock ≠ some q) w9 (l ++ [z]) (ps ++ [.pointer (some ⟨g5, 0, none⟩)])) := by
              refine Nds.snoc (Nds.mono (fun q hq => ⟨hq.1.1, fun e => ?_⟩) _ _ (Nds.mv hm9 (fun q hq e => hq.1.2 e) _ _ T5.out)) (Nd.mono (fun q hq => ⟨by have : w4.heap.size ≤ q := hq.1; omega, fun e => ?_⟩) _ _ (Nd.mv hm9 (fun q hq e => by have := (OL.out q e).2; have : w4.heap.size ≤ q := hq.1; omega) _ _ Z5.out))
              · rcases hv9 q e with c | c
                · exact hq.1.2 c
                · have := hq.2
                  omega
              · rcases hv9 q e with c | c
                · have := (OL.out q c).2
                  have : w4.heap.size ≤ q := hq.1
                  omega
                · have := hq.2
                  omega
            have R9 := hide (R5.out.mv hm9 (fun q e => by
              have h1 := HK.out q e
              have := R5.out.1
              omega))
            have M9 : Hid (Mv W w9 (fun j => j = k)) := M5.out.trans hm9 (fun q hq e => by have := HK.out q e; omega)
            clear ho9 hg9 ha9 hm9 hv9 b6 T5 Z5 O5
            go_wp2_with fail
            go_roundg m
            case measure => omega
            case rel => exact ⟨m, l ++ [z], s2, _, rfl, by omega, by simp; omega, HE3, O9, K9, T9, R9, M9⟩
end Go.Proofs.YtmfoehaeejhlpaaGreatDoor

/-
  The reader: arguments, numbers, has.
-/
namespace Go.Proofs.YtmfoehaeejhlpaaGreatDoor
open Go.RowKit Yn
set_option maxRecDepth 100000
theorem items_de {p : Nat → S → R Tree} (hp : ∀ n s t s', p n s = .ok t s' → s'.de = s.de) : ∀ (n : Nat) (l : List Tree) (s : S) (l' : List Tree) (s' : S), items p n l s = .ok l' s' → s'.de = s.de
  | 0, l, s, l', s', h => by rw [items] at h; cases h
  | n + 1, l, s, l', s', h => by
    rw [items] at h
    split at h
    · obtain ⟨x, s1, h1, h2⟩ := bind_ok h
      exact (items_de hp n _ _ _ _ h2).trans ((hp _ _ _ _ h1).trans nx_de)
    · cases h
      rfl
theorem list_de {p : Nat → S → R Tree} (hp : ∀ n s t s', p n s = .ok t s' → s'.de = s.de) {n : Nat} {x : ByteArray} {s : S} {l : List Tree} {s' : S} (h : listS p n x s = .ok l s') : s'.de = s.de := by
  unfold listS at h
  split at h
  · cases h
    rfl
  · obtain ⟨y, s1, h1, h2⟩ := bind_ok h
    exact (items_de hp n _ _ _ _ h2).trans (hp _ _ _ _ h1)
theorem isList.mv {W W' W2 : World} {l : List Tree} {v : Value} {k : Nat} (h : isList W l v W') (hm : Mv W' W2 (fun j => j = k)) (hk : k < W.heap.size) : isList W l v W2 := by
  obtain ⟨ps, h1, h2, h3⟩ := h
  exact ⟨ps, hm.own h1 (fun q e (e2 : q = k) => by have := h2 q e; omega), h2, Nds.mv hm (fun q hq (e : q = k) => by have : W.heap.size ≤ q := hq.1; omega) _ _ h3⟩
def Ca (n : Nat) : Prop := ∀ (W : World) (B k : Nat) (ws : List ByteArray) (s : S), Rd W B k ws s → args ws n s ≠ .out → Calls Tryz.prog 218 #[.pointer (some ⟨k, 0, none⟩)] W (Out (isList W) W B k ws (args ws n s))
set_option maxHeartbeats 4000000 in
theorem args_step {n : Nat} (hn : n ≤ 1000000) (hc : ∀ m, m ≤ n → Cc m) : Ca (n + 1) := by
  intro W B k ws s hR hne
  obtain ⟨r, hr⟩ : ∃ r, r = args ws (n + 1) s := ⟨_, rfl⟩
  rw [← hr] at hne ⊢
  rw [args_list] at hr
  have HC := hide hc
  have H := hide hR
  have HNE := hide hne
  have HE := hide hr
  have hkW := hR.lt
  clear hc hR hne hr
  go_enter Tryz.func218, Tryz.ntmps218
  go_wp2_with fail
  refine calls_sub HE.out HNE.out (Mv.refl _ _) (fun _ => open_any H.out cOpen (by decide)) (by (intro a er e w' hE hp; have hp2 := hp; obtain ⟨q, hq1, -⟩ := hp; subst hq1; subst hE; exact ⟨rfl, hp2⟩)) ?_
  intro x1 s1 v1 w1 hq1 hr1 hv1 hR1 hm1 hM1
  subst hv1
  have E1 := hide hr1
  have D1 := hide (open_de hq1)
  have R1 := hide hR1
  have M1 := hide hM1
  clear hq1 hr1 hR1 hm1 hM1 HE
  go_wp2_with fail
  refine calls_sub E1.out HNE.out M1.out (fun h => listC_any hn HC.out R1.out cClose h) (by (intro a er e w' hE hp; have hp2 := hp; obtain ⟨q, hq1, -⟩ := hp; subst hq1; subst hE; exact ⟨rfl, hp2⟩)) ?_
  intro x2 s2 v2 w2 hq2 hr2 hv2 hR2 hm2 hM2
  have E2 := hide hr2
  have D2 := hide (list_de (fun n s t s' h => (expr_de ws n).1 s t s' h) hq2)
  have R2 := hide hR2
  have M2 := hide hM2
  have T2 := hide hv2
  have hz1 := M1.out.size
  obtain ⟨ps, hrow, -⟩ := hv2
  obtain ⟨ao, c, rfl⟩ := own_len hrow
  clear hq2 hr2 hR2 hm2 hM2 hrow E1 R1
  go_wp2_with fail
  refine calls_sub E2.out HNE.out M2.out (fun _ => take_any R2.out cClose (by decide)) (by (intro a er e w' hE hp; have hp2 := hp; obtain ⟨q, hq1, -⟩ := hp; subst hq1; subst hE; exact ⟨rfl, hp2⟩)) ?_
  intro x3 s3 v3 w3 hq3 hr3 hv3 hR3 hm3 hM3
  subst hv3
  have E3 := hide hr3
  have hde : s3.de = s.de + 1 := (take_de hq3).trans (D2.out.trans D1.out)
  have J := hide (leave_any hR3 (by omega))
  have M3 := hide hM3
  have T3 := hide (isList.mv T2.out hm3 (by omega))
  clear hq3 hr3 hR3 hm3 hM3 E2 R2 D1 D2 T2 M2
  go_wp2_with fail
  refine J.out.mono ?_
  rintro e w4 ⟨rfl, hR4, hm4⟩
  have R4 := hide hR4
  have M4 := hide (M3.out.trans hm4 (fun _ _ e => e))
  have T4 := hide (isList.mv T3.out hm4 (by omega))
  clear hR4 hm4 J T3 M3
  go_wp2_with fail
  go_ret
  have ER := E3.out
  subst ER
  obtain ⟨ps, h1, h2, h3⟩ := T4.out
  exact ⟨_, rfl, ⟨ps, h1, fun q e => Nat.le_trans hz1 (h2 q e), Nds.mono (fun q hq => ⟨Nat.le_trans hz1 hq.1, hq.2⟩) _ _ h3⟩, R4.out, M4.out⟩
/-- What is said of strconv.ParseInt of a number's text. -/
def Pz : Prop := ∀ (t : ByteArray) (W : World), Dg t → Calls Tryz.prog 102 #[.string t, .int .i64 10, .int .i64 64] W fun e W' => e = .returned (.tuple #[.int .i64 (digits t), .nilIface]) ∧ Below W.heap.size W W'
/-- A leaf: a node with nothing in its list. -/
theorem nd_leaf {W : World} {X : Nat → Prop} {g op a : Nat} {t : ByteArray} {n : Int} (hg : W.heap[g]? = some (.cells #[.int .i64 (op : Int), .string t, .int .i64 n, .slice none 0 0, .int .i64 (a : Int)] 51 (0, 0))) (hX : X g) : Nd X W (.mk op t n [] a) (.pointer (some ⟨g, 0, none⟩)) := by
  rw [Nd]
  exact ⟨g, _, [], rfl, hX, hg, World.ownsRow_nil _ _ _ _, fun q e => by simp [Value.ownBlock] at e, Nds.none⟩
theorem Rd.num {W : World} {B k : Nat} {ws : List ByteArray} {s : S} (h : Rd W B k ws s) (hk : (hd s).k = 2) : Dg (hd s).t := h.2.2.1.num hk
set_option maxHeartbeats 4000000 in
theorem number_any (hP : Pz) {W : World} {B k : Nat} {ws : List ByteArray} {s : S} (hR : Rd W B k ws s) (h2 : (hd s).k = 2) : Calls Tryz.prog 216 #[.pointer (some ⟨k, 0, none⟩)] W (Out (isTree W) W B k ws (.ok (.mk 30 (bs []) (digits (hd s).t) [] (hd s).a) (nx s))) := by
  have HP := hide hP
  have H := hide hR
  have hkW := hR.lt
  have f1 := fld1
  have HD := hide (hR.num h2)
  have J1 := hide (node_any hR 30)
  have hne : (hd s).k ≠ 0 ∨ (hd s).t ≠ bs [] := .inl (by omega)
  clear hP hR h2
  go_enter Tryz.func216, Tryz.ntmps216
  go_wp2_with fail
  refine J1.out.mono ?_
  rintro e w1 ⟨g, rfl, hg, hg1, hb1⟩
  have J2 := hide (next_any (H.out.later hb1) hne)
  unfold tokV at J2
  have M1 := hide (Mv.of_below hb1 (fun j => j = k))
  have G1 := hide hg1
  clear hb1 hg1 J1
  go_wp2_with fail
  refine J2.out.mono ?_
  rintro e w2 ⟨rfl, hR2, hm2⟩
  have R2 := hide hR2
  have M2 := hide (M1.out.trans hm2 (fun _ _ e => e))
  have G2 := hide (hm2.at G1.out (fun (e : g = k) => by omega))
  clear hR2 hm2 G1 M1 J2
  go_wp2_with fail
  refine (HP.out _ _ HD.out).mono ?_
  rintro e w3 ⟨rfl, hb3⟩
  have hg3 := (hb3.block g (lt_of_block G2.out)).trans G2.out
  have c3 : w3.cell? ⟨g, 2, none⟩ = some (.int .i64 0) := by rw [cell_of_row w3 g _ _ 51 (0, 0) hg3]; rfl
  have f3 : w3.frozen? ⟨g, 2, none⟩ = false := frozen_of_row w3 g 2 _ 51 hg3
  have hgk : g ≠ k := by omega
  have hm4 : Mv w3 (w3.setCell ⟨g, 2, none⟩ (.int .i64 (digits (hd s).t))) (fun j => j = g) := (Mv.refl w3 (fun j => j = g)).set (g := g) rfl _ _
  have hg4 := heap_setCell_same w3 g 2 _ 51 (.int .i64 (digits (hd s).t)) hg3
  have R4 := hide ((R2.out.later hb3).mv hm4 (fun j (e : j = g) => by have := R2.out.1; have := H.out.1; omega))
  have M4 := hide ((M2.out.later hb3).trans hm4 (fun j hj (e : j = g) => by omega))
  have T4 : Hid (Nd (fun q => W.heap.size ≤ q) (w3.setCell ⟨g, 2, none⟩ (.int .i64 (digits (hd s).t))) (.mk 30 (bs []) (digits (hd s).t) [] (hd s).a) (.pointer (some ⟨g, 0, none⟩))) := nd_leaf hg4 hg
  obtain ⟨w4, hw4⟩ : ∃ X, X = w3.setCell ⟨g, 2, none⟩ (.int .i64 (digits (hd s).t)) := ⟨_, rfl⟩
  rw [← hw4] at R4 M4 T4
  have HW4 := hide hw4
  clear hg4 hm4 hw4 hb3 hg3
  go_wp2_with fail
  rw [← HW4.out]
  go_ret
  exact ⟨_, rfl, T4.out, R4.out, M4.out⟩
set_option maxHeartbeats 4000000 in
theorem has_any {W : World} {B k : Nat} {ws : List ByteArray} {s : S} (hR : Rd W B k ws s) {r : R Tree} (hr : r = (take wHas s).bind fun _ s1 => (take cOpen s1).bind fun _ s2 => (name ws s2).bind fun t s3 => (take cClose s3).bind fun _ s4 => .ok (.mk 37 t 0 [] (hd s).a) s4) (hne : r ≠ .out) : Calls Tryz.prog 217 #[.pointer (some ⟨k, 0, none⟩)] W (Out (isTree W) W B k ws r) := by
  have H := hide hR
  have hkW := hR.lt
  have J1 := hide (node_any hR 37)
  have HNE := hide hne
  have HE := hide hr
  clear hR hr hne
  go_enter Tryz.func217, Tryz.ntmps217
  go_wp2_with fail
  refine J1.out.mono ?_
  rintro e w1 ⟨g, rfl, hg, hg1, hb1⟩
  have R1 := hide (H.out.later hb1)
  have M1 := hide (Mv.of_below hb1 (fun j => j = k))
  have G1 := hide hg1
  clear hb1 hg1 J1
  go_wp2_with fail
  refine calls_sub HE.out HNE.out M1.out (fun _ => take_any R1.out wHas (by decide)) (by (intro a er e w' hE hp; have hp2 := hp; obtain ⟨q, hq1, -⟩ := hp; subst hq1; subst hE; exact ⟨rfl, hp2⟩)) ?_
  intro x2 s2 v2 w2 hq2 hr2 hv2 hR2 hm2 hM2
  subst hv2
  have E2 := hide hr2
  have R2 := hide hR2
  have M2 := hide hM2
  have G2 := hide (hm2.at G1.out (fun (e : g = k) => by omega))
  clear hq2 hr2 hR2 hm2 hM2 HE R1 G1 M1
  go_wp2_with fail
  refine calls_sub E2.out HNE.out M2.out (fun _ => take_any R2.out cOpen (by decide)) (by (intro a er e w' hE hp; have hp2 := hp; obtain ⟨q, hq1, -⟩ := hp; subst hq1; subst hE; exact ⟨rfl, hp2⟩)) ?_
  intro x3 s3 v3 w3 hq3 hr3 hv3 hR3 hm3 hM3
  subst hv3
  have E3 := hide hr3
  have R3 := hide hR3
  have M3 := hide hM3
  have G3 := hide (hm3.at G2.out (fun (e : g = k) => by omega))
  clear hq3 hr3 hR3 hm3 hM3 E2 R2 G2 M2
  go_wp2_with fail
  refine calls_sub E3.out HNE.out M3.out (fun _ => name_any R3.out) (by (intro a er e w' hE hp; have hp2 := hp; obtain ⟨q, hq1, -⟩ := hp; subst hq1; subst hE; exact ⟨rfl, hp2⟩)) ?_
  intro t s4 v4 w4 hq4 hr4 hv4 hR4 hm4 hM4
  subst hv4
  have E4 := hide hr4
  have hg4 := hm4.at G3.out (fun (e : g = k) => by omega)
  have c4 : w4.cell? ⟨g, 1, none⟩ = some (.string (bs [])) := by rw [cell_of_row w4 g _ _ 51 (0, 0) hg4]; rfl
  have f4 : w4.frozen? ⟨g, 1, none⟩ = false := frozen_of_row w4 g 1 _ 51 hg4
  have hgk : g ≠ k := by omega
  have hm5 : Mv w4 (w4.setCell ⟨g, 1, none⟩ (.string t)) (fun j => j = g) := (Mv.refl w4 (fun j => j = g)).set (g := g) rfl _ _
  have G5 := hide (heap_setCell_same w4 g 1 _ 51 (.string t) hg4)
  have R5 := hide (hR4.mv hm5 (fun j (e : j = g) => by have := hR4.1; omega))
  have M5 := hide (hM4.trans hm5 (fun j hj (e : j = g) => by omega))
  obtain ⟨w5, hw5⟩ : ∃ X, X = w4.setCell ⟨g, 1, none⟩ (.string t) := ⟨_, rfl⟩
  rw [← hw5] at R5 M5 G5
  have HW5 := hide hw5
  clear hq4 hr4 hR4 hm4 hM4 E3 R3 G3 M3 hg4 hm5 hw5
  go_wp2_with fail
  rw [← HW5.out]
  refine calls_sub E4.out HNE.out M5.out (fun _ => take_any R5.out cClose (by decide)) (by (intro a er e w' hE hp; have hp2 := hp; obtain ⟨q, hq1, -⟩ := hp; subst hq1; subst hE; exact ⟨rfl, hp2⟩)) ?_
  intro x6 s6 v6 w6 hq6 hr6 hv6 hR6 hm6 hM6
  subst hv6
  have E6 := hide hr6
  have R6 := hide hR6
  have M6 := hide hM6
  have G6 := hide (hm6.at G5.out (fun (e : g = k) => by omega))
  clear hq6 hr6 hR6 hm6 hM6 E4 R5 G5 M5 HW5
  go_wp2_with fail
  go_ret
  have ER := E6.out
  subst ER
  exact ⟨_, rfl, nd_leaf G6.out hg, R6.out, M6.out⟩
end Go.Proofs.YtmfoehaeejhlpaaGreatDoor

/-
  The reader: a node that is being filled.
-/
namespace Go.Proofs.YtmfoehaeejhlpaaGreatDoor
open Go.RowKit Yn
set_option maxRecDepth 100000
/-- A node that is being filled, with all that hangs on it, at lo or above. -/
def Np (lo : Nat) (w : World) (g op : Nat) (t : ByteArray) (n : Int) (l : List Tree) (a : Nat) : Prop :=
  lo ≤ g ∧ ∃ vl ps, w.heap[g]? = some (.cells #[.int .i64 (op : Int), .string t, .int .i64 n, vl, .int .i64 (a : Int)] 51 (0, 0)) ∧ w.ownsRow 0 23 1 vl l.length ps ∧ (∀ q, vl.ownBlock = some q → lo ≤ q ∧ q ≠ g) ∧ Nds (fun q => lo ≤ q ∧ q ≠ g ∧ vl.ownBlock ≠ some q) w l ps
section
variable {lo g op a k : Nat} {t : ByteArray} {n : Int} {l : List Tree} {w w' : World}
theorem Np.lt (h : Np lo w g op t n l a) : g < w.heap.size := by
  obtain ⟨h1, vl, ps, h2, -⟩ := h
  exact lt_of_block h2
theorem Np.mv (h : Np lo w g op t n l a) {Z : Nat → Prop} (hm : Mv w w' Z) (hk : ∀ q, Z q → q < lo) : Np lo w' g op t n l a := by
  obtain ⟨h1, vl, ps, h2, h3, h4, h5⟩ := h
  exact ⟨h1, vl, ps, hm.at h2 (fun e => by have := hk g e; omega), hm.own h3 (fun q e e2 => by have := (h4 q e).1; have := hk q e2; omega), h4, Nds.mv hm (fun q hq e => by have := hk q e; have := hq.1; omega) _ _ h5⟩
theorem Np.mvk (h : Np lo w g op t n l a) (hm : Mv w w' (fun j => j = k)) (hk : k < lo) : Np lo w' g op t n l a := h.mv hm (fun q (e : q = k) => by omega)
theorem Np.later (h : Np lo w g op t n l a) (hb : Below w.heap.size w w') : Np lo w' g op t n l a := h.mv (Mv.of_below hb (fun _ => False)) (fun _ e => e.elim)
theorem Np.done (h : Np lo w g op t n l a) : Nd (fun q => lo ≤ q) w (.mk op t n l a) (.pointer (some ⟨g, 0, none⟩)) := by
  obtain ⟨h1, vl, ps, h2, h3, h4, h5⟩ := h
  rw [Nd]
  exact ⟨g, vl, ps, rfl, h1, h2, h3, fun q e => (h4 q e).1, Nds.mono (fun q hq => hq.1) _ _ h5⟩
theorem Np.fresh (hlo : lo ≤ g) (hg : w.heap[g]? = some (.cells #[.int .i64 (op : Int), .string t, .int .i64 n, .slice none 0 0, .int .i64 (a : Int)] 51 (0, 0))) : Np lo w g op t n [] a :=
  ⟨hlo, _, [], hg, World.ownsRow_nil _ _ _ _, fun q e => by simp [Value.ownBlock] at e, Nds.none⟩
theorem Np.setText (h : Np lo w g op t n l a) (t' : ByteArray) : Np lo (w.setCell ⟨g, 1, none⟩ (.string t')) g op t' n l a ∧ Mv w (w.setCell ⟨g, 1, none⟩ (.string t')) (fun q => q = g) := by
  obtain ⟨h1, vl, ps, h2, h3, h4, h5⟩ := h
  have hm : Mv w (w.setCell ⟨g, 1, none⟩ (.string t')) (fun q => q = g) := (Mv.refl w (fun q => q = g)).set (g := g) rfl _ _
  exact ⟨⟨h1, vl, ps, heap_setCell_same w g 1 _ 51 (.string t') h2, hm.own h3 (fun q e (e2 : q = g) => (h4 q e).2 e2), h4, Nds.mv hm (fun q hq e => hq.2.1 e) _ _ h5⟩, hm⟩
theorem Np.setOp (h : Np lo w g op t n l a) (op' : Nat) : Np lo (w.setCell ⟨g, 0, none⟩ (.int .i64 (op' : Int))) g op' t n l a ∧ Mv w (w.setCell ⟨g, 0, none⟩ (.int .i64 (op' : Int))) (fun q => q = g) := by
  obtain ⟨h1, vl, ps, h2, h3, h4, h5⟩ := h
  have hm : Mv w (w.setCell ⟨g, 0, none⟩ (.int .i64 (op' : Int))) (fun q => q = g) := (Mv.refl w (fun q => q = g)).set (g := g) rfl _ _
  exact ⟨⟨h1, vl, ps, heap_setCell_same w g 0 _ 51 (.int .i64 (op' : Int)) h2, hm.own h3 (fun q e (e2 : q = g) => (h4 q e).2 e2), h4, Nds.mv hm (fun q hq e => hq.2.1 e) _ _ h5⟩, hm⟩
theorem Np.setAt (h : Np lo w g op t n l a) (a' : Nat) : Np lo (w.setCell ⟨g, 4, none⟩ (.int .i64 (a' : Int))) g op t n l a' ∧ Mv w (w.setCell ⟨g, 4, none⟩ (.int .i64 (a' : Int))) (fun q => q = g) := by
  obtain ⟨h1, vl, ps, h2, h3, h4, h5⟩ := h
  have hm : Mv w (w.setCell ⟨g, 4, none⟩ (.int .i64 (a' : Int))) (fun q => q = g) := (Mv.refl w (fun q => q = g)).set (g := g) rfl _ _
  exact ⟨⟨h1, vl, ps, heap_setCell_same w g 4 _ 51 (.int .i64 (a' : Int)) h2, hm.own h3 (fun q e (e2 : q = g) => (h4 q e).2 e2), h4, Nds.mv hm (fun q hq e => hq.2.1 e) _ _ h5⟩, hm⟩
/-- A list that was read takes the place of the node's own. -/
theorem Np.setList (h : Np lo w g op t n l a) {vl' : Value} {l' : List Tree} {ps' : List Value} (ho : w.ownsRow 0 23 1 vl' l'.length ps') (hv : ∀ q, vl'.ownBlock = some q → lo ≤ q ∧ q ≠ g) (hl2 : Nds (fun q => lo ≤ q ∧ q ≠ g ∧ vl'.ownBlock ≠ some q) w l' ps') : Np lo (w.setCell ⟨g, 3, none⟩ vl') g op t n l' a ∧ Mv w (w.setCell ⟨g, 3, none⟩ vl') (fun q => q = g) := by
  obtain ⟨h1, vl, ps, h2, h3, h4, h5⟩ := h
  have hm : Mv w (w.setCell ⟨g, 3, none⟩ vl') (fun q => q = g) := (Mv.refl w (fun q => q = g)).set (g := g) rfl _ _
  exact ⟨⟨h1, vl', ps', heap_setCell_same w g 3 _ 51 vl' h2, hm.own ho (fun q e (e2 : q = g) => (hv q e).2 e2), hv, Nds.mv hm (fun q hq e => hq.2.1 e) _ _ hl2⟩, hm⟩
theorem Np.cells (h : Np lo w g op t n l a) : (w.cell? ⟨g, 0, none⟩ = some (.int .i64 (op : Int)) ∧ w.cell? ⟨g, 1, none⟩ = some (.string t) ∧ w.cell? ⟨g, 4, none⟩ = some (.int .i64 (a : Int))) ∧ ∀ q, w.frozen? ⟨g, q, none⟩ = false := by
  obtain ⟨h1, vl, ps, h2, -⟩ := h
  exact ⟨⟨by rw [cell_of_row w g _ _ 51 (0, 0) h2]; rfl, by rw [cell_of_row w g _ _ 51 (0, 0) h2]; rfl, by rw [cell_of_row w g _ _ 51 (0, 0) h2]; rfl⟩, fun q => frozen_of_row w g q _ 51 h2⟩
/-- The same, with the list's value told. -/
def Nv (lo : Nat) (w : World) (g op : Nat) (t : ByteArray) (n : Int) (l : List Tree) (a : Nat) (ao : Option Addr) (c : Nat) (ps : List Value) : Prop :=
  lo ≤ g ∧ w.heap[g]? = some (.cells #[.int .i64 (op : Int), .string t, .int .i64 n, .slice ao l.length c, .int .i64 (a : Int)] 51 (0, 0)) ∧ w.ownsRow 0 23 1 (.slice ao l.length c) l.length ps ∧ (∀ q, (Value.slice ao l.length c).ownBlock = some q → lo ≤ q ∧ q ≠ g) ∧ Nds (fun q => lo ≤ q ∧ q ≠ g ∧ (Value.slice ao l.length c).ownBlock ≠ some q) w l ps ∧ l.length ≤ c ∧ c ≤ 9223372036854775807
theorem Np.nv (h : Np lo w g op t n l a) : ∃ ao c ps, Nv lo w g op t n l a ao c ps := by
  obtain ⟨h1, vl, ps, h2, h3, h4, h5⟩ := h
  obtain ⟨ao, c, rfl⟩ := own_len h3
  have hc := own_cap h3
  exact ⟨ao, c, ps, h1, h2, h3, h4, h5, hc.1, hc.2⟩
section
variable {ao : Option Addr} {c : Nat} {ps : List Value}
theorem Nv.mv (h : Nv lo w g op t n l a ao c ps) {Z : Nat → Prop} (hm : Mv w w' Z) (hk : ∀ q, Z q → q < lo) : Nv lo w' g op t n l a ao c ps := by
  obtain ⟨h1, h2, h3, h4, h5, h6⟩ := h
  exact ⟨h1, hm.at h2 (fun e => by have := hk g e; omega), hm.own h3 (fun q e e2 => by have := (h4 q e).1; have := hk q e2; omega), h4, Nds.mv hm (fun q hq e => by have := hk q e; have := hq.1; omega) _ _ h5, h6⟩
theorem Nv.mvk (h : Nv lo w g op t n l a ao c ps) (hm : Mv w w' (fun j => j = k)) (hk : k < lo) : Nv lo w' g op t n l a ao c ps := h.mv hm (fun q (e : q = k) => by omega)
theorem Nv.later (h : Nv lo w g op t n l a ao c ps) (hb : Below w.heap.size w w') : Nv lo w' g op t n l a ao c ps := h.mv (Mv.of_below hb (fun _ => False)) (fun _ e => e.elim)
theorem Nv.cell (h : Nv lo w g op t n l a ao c ps) : w.cell? ⟨g, 3, none⟩ = some (.slice ao l.length c) := by
  rw [cell_of_row w g _ _ 51 (0, 0) h.2.1]
  rfl
theorem Nv.lt (h : Nv lo w g op t n l a ao c ps) : g < w.heap.size := lt_of_block h.2.1
theorem Nv.own (h : Nv lo w g op t n l a ao c ps) : w.ownsRow 0 23 1 (.slice ao l.length c) l.length ps := h.2.2.1
theorem Nv.cap (h : Nv lo w g op t n l a ao c ps) : l.length ≤ c ∧ c ≤ 9223372036854775807 := h.2.2.2.2.2
theorem Nv.old (h : Nv lo w g op t n l a ao c ps) {q : Nat} (hq : w.heap.size ≤ q) : lo ≤ q ∧ q ≠ g ∧ (Value.slice ao l.length c).ownBlock ≠ some q := by
  have := h.lt
  have := h.1
  refine ⟨by omega, by omega, fun e => ?_⟩
  have := (h.own.lt q e).2
  omega
end
theorem Nds.append {X : Nat → Prop} {W : World} : ∀ {l : List Tree} {ps : List Value}, Nds X W l ps → ∀ {l' : List Tree} {ps' : List Value}, Nds X W l' ps' → Nds X W (l ++ l') (ps ++ ps')
  | [], ps, h, l', ps', h' => by
    rw [Nds] at h
    subst h
    exact h'
  | x :: xs, ps, h, l', ps', h' => by
    rw [Nds] at h
    obtain ⟨p, ps2, rfl, h1, h2⟩ := h
    show Nds X W (x :: (xs ++ l')) (p :: (ps2 ++ ps'))
    rw [Nds]
    exact ⟨_, _, rfl, h1, Nds.append h2 h'⟩
/-- More is appended to the node's list. -/
theorem Nv.push {w5 w9 : World} {ao : Option Addr} {c : Nat} {ps qs : List Value} {xs : List Tree} {g9 c9 m : Nat} {o : Obj} (h : Nv lo w5 g op t n l a ao c ps)
    (hx : Nds (fun q => lo ≤ q ∧ q ≠ g ∧ (Value.slice ao l.length c).ownBlock ≠ some q) w5 xs qs) (hm : (l ++ xs).length = m)
    (ho9 : w9.ownsRow 0 23 1 (.slice (some ⟨g9, 0, none⟩) m c9) m (ps ++ qs)) (hg9 : (w5.alloc o).grownBy w9 (Value.slice ao l.length c).ownBlock) (ha9 : (Value.slice ao l.length c).ownBlock = some g9 ∨ g9 = (w5.alloc o).heap.size) :
    (Np lo (w9.setCell ⟨g, 3, none⟩ (.slice (some ⟨g9, 0, none⟩) m c9)) g op t n (l ++ xs) a ∧ Mv w5 (w9.setCell ⟨g, 3, none⟩ (.slice (some ⟨g9, 0, none⟩) m c9)) (fun q => lo ≤ q)) ∧ w9.cell? ⟨g, 3, none⟩ = some (.slice ao l.length c) ∧ w9.frozen? ⟨g, 3, none⟩ = false := by
  obtain ⟨hlo, hg, ho, hv, hl, -⟩ := h
  have hgl := lt_of_block hg
  have hsz : (w5.alloc o).heap.size = w5.heap.size + 1 := Array.size_push ..
  have hm9 : Mv w5 w9 (fun q => (Value.slice ao l.length c).ownBlock = some q) := ((Mv.refl w5 (fun q => (Value.slice ao l.length c).ownBlock = some q)).later (below_alloc w5 o)).grown hg9 (fun q _ e => e)
  have hs9 : Mv w9 (w9.setCell ⟨g, 3, none⟩ (.slice (some ⟨g9, 0, none⟩) m c9)) (fun q => q = g) := (Mv.refl w9 (fun q => q = g)).set (g := g) rfl _ _
  have hg9g : lo ≤ g9 ∧ g9 ≠ g := by
    rcases ha9 with e | e
    · exact hv _ e
    · omega
  have h9 := hm9.at hg (fun e => (hv g e).2 rfl)
  refine ⟨⟨⟨hlo, _, ps ++ qs, heap_setCell_same w9 g 3 _ 51 _ h9, hs9.own (by rw [hm]; exact ho9) (fun q e (e2 : q = g) => ?_), fun q e => ?_, ?_⟩, ?_⟩, ?_, frozen_of_row w9 g 3 _ 51 h9⟩
  · have e' : g9 = q := Option.some.inj e
    omega
  · have e' : g9 = q := Option.some.inj e
    omega
  · refine Nds.mv hs9 (fun q hq (e : q = g) => hq.2.1 e) _ _ (Nds.mono (fun q hq => ⟨hq.1.1, hq.1.2.1, fun e => ?_⟩) _ _ (Nds.mv hm9 (fun q hq e => hq.1.2.2 e) _ _ (Nds.tight _ _ (Nds.append hl hx))))
    have e' : g9 = q := Option.some.inj e
    rcases ha9 with c | c
    · exact hq.1.2.2 (e' ▸ c)
    · have := hq.2
      omega
  · exact (hm9.mono (fun q _ e => (hv q e).1)).trans hs9 (fun q _ (e : q = g) => by show lo ≤ q; omega)
  · rw [cell_of_row w9 g _ _ 51 (0, 0) h9]
    rfl
end
/-- As calls_sub, of what is said from an earlier world on. -/
theorem calls_subN {α β : Type} {P : α → Value → World → Prop} {r : R β} {sp : R α} {f : α → S → R β} {W Wc : World} {B k : Nat} {ws : List ByteArray} {fn : Nat} {args : Array Value} {Q : Ending → World → Prop}
    (hr : r = sp.bind f) (hne : r ≠ .out) (J : sp ≠ .out → Calls Tryz.prog fn args Wc (Out P W B k ws sp))
    (hno : ∀ a er e w', r = .no a er → Pn W k a er e w' → Q e w')
    (hok : ∀ x s v w', sp = .ok x s → r = f x s → P x v w' → Rd w' B k ws s → Mv W w' (fun j => j = k) → Q (.returned v) w') : Calls Tryz.prog fn args Wc Q := by
  cases h : sp with
  | out => exact absurd (by rw [hr, h]; rfl) hne
  | no a er =>
    have J := J (by rw [h]; intro e; cases e)
    rw [h] at J
    exact J.mono (fun e w' hp => hno a er e w' (by rw [hr, h]; rfl) hp)
  | ok x s =>
    have J := J (by rw [h]; intro e; cases e)
    rw [h] at J
    refine J.mono ?_
    rintro e w' ⟨v, rfl, h1, h2, h3⟩
    exact hok x s v w' h (by rw [hr, h]; rfl) h1 h2 h3
end Go.Proofs.YtmfoehaeejhlpaaGreatDoor
