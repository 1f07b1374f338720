import Derived.Test.YtmfoehaeejhlpaaGreatDoorGaAJ
import Derived.Test.YtmfoehaeejhlpaaGreatDoorGaAG
/-
  The reader: list, of what function 210 reads.
-/
namespace Go.Proofs.YtmfoehaeejhlpaaGreatDoor
open Go.RowKit Yn
set_option maxRecDepth 100000
set_option maxHeartbeats 8000000 in
theorem listF_any {n : Nat} (hn : n ≤ 1000000) (hI : ∀ m, m ≤ n → Cfd m) {W : World} {B k : Nat} {ws : List ByteArray} {s0 : S} (hR : Rd W B k ws s0) (x : ByteArray) (hne : listS (Yn.field ws) n x s0 ≠ .out) : Calls Tryz.prog 202 #[.pointer (some ⟨k, 0, none⟩), .string x, .func (.func 210) #[] #[]] W (Out (isList W) W B k ws (listS (Yn.field ws) n x s0)) := by
  obtain ⟨i0, hi0, hz0, hz1, hz2⟩ := info_parts infoN
  have HI := hide hI
  have hkW := hR.lt
  have J1 := hide (isAt_any hR x)
  have H := hide hR
  obtain ⟨r, hr⟩ : ∃ r, r = listS (Yn.field ws) n x s0 := ⟨_, rfl⟩
  rw [← hr] at hne ⊢
  have HNE := hide hne
  unfold listS at hr
  clear hI hR hne
  cases b : isAt s0 x with
  | true =>
    rw [b] at J1 hr
    have ER : r = .ok [] s0 := hr
    clear hr b
    go_enter Tryz.func202, Tryz.ntmps202
    go_wp2_with fail
    refine J1.out.mono ?_
    rintro e w1 ⟨rfl, hb1⟩
    have HB1 := hide hb1
    clear hb1 J1
    go_wp2_with fail
    go_ret
    subst ER
    exact ⟨_, rfl, ⟨[], World.ownsRow_nil _ _ _ _, fun q e => by simp [Value.ownBlock] at e, Nds.none⟩, H.out.later HB1.out, Mv.of_below HB1.out _⟩
  | false =>
    rw [b] at J1 hr
    have HE0 : Hid (r = (Yn.field ws n s0).bind fun y s => items (Yn.field ws) n [y] s) := hr
    clear hr b
    go_enter Tryz.func202, Tryz.ntmps202
    go_wp2_with fail
    refine J1.out.mono ?_
    rintro e w1 ⟨rfl, hb1⟩
    have HB1 := hide hb1
    clear hb1 J1
    go_wp2_with fail
    cases hq : Yn.field ws n s0 with
    | out => exact absurd (show r = .out by rw [HE0.out, hq]; rfl) HNE.out
    | no a er =>
      have J := HI.out n (Nat.le_refl _) w1 B k ws s0 (H.out.later HB1.out) (by rw [hq]; intro h; cases h)
      rw [hq] at J
      refine J.mono ?_
      rintro e w2 hp
      have hp2 := Pn.from hp (Mv.of_below HB1.out (fun j => j = k))
      obtain ⟨q, rfl, -⟩ := hp
      have ER : r = .no a er := by rw [HE0.out, hq]; rfl
      subst ER
      exact ⟨rfl, hp2⟩
    | ok y s1 =>
      have J := HI.out n (Nat.le_refl _) w1 B k ws s0 (H.out.later HB1.out) (by rw [hq]; intro h; cases h)
      rw [hq] at J
      have HE : Hid (r = items (Yn.field ws) n [y] s1) := by
        unfold Hid
        rw [HE0.out, hq]
        rfl
      clear hq HE0
      refine J.mono ?_
      rintro e w2 ⟨v2, rfl, ht2, hr2, hm2⟩
      obtain ⟨g2, rfl⟩ := Nd.ptr ht2
      have hz2' := HB1.out.size
      have hz3' := hm2.size
      obtain ⟨w3, hw3⟩ : ∃ X, X = w2.alloc (.cells #[.pointer (some ⟨g2, 0, none⟩)] 23) := ⟨_, rfl⟩
      have b3 : Below w2.heap.size w2 w3 := hw3 ▸ below_alloc w2 _
      have O3 : Hid (w3.ownsRow 0 23 1 (.slice (some ⟨w2.heap.size, 0, none⟩) 1 1) 1 [.pointer (some ⟨g2, 0, none⟩)]) := by
        rw [hw3]
        exact World.ownsRow_lit w2 #[.pointer (some ⟨g2, 0, none⟩)] 1 (Nat.zero_le _) (by unfold maxLen; omega) rfl
      have R3 := hide (hr2.later b3)
      have M3 := hide (((Mv.of_below HB1.out (fun j => j = k)).trans hm2 (fun _ _ e => e)).later b3)
      have T3 : Hid (Nds (fun q => W.heap.size ≤ q ∧ q ≠ w2.heap.size) w3 [y] [.pointer (some ⟨g2, 0, none⟩)]) := by
        unfold Hid
        rw [Nds]
        exact ⟨_, _, rfl, Nd.mv (Mv.of_below b3 (fun _ => False)) (fun _ _ e => e) _ _ (Nd.mono (fun q hq => ⟨by have : w1.heap.size ≤ q := hq.1; omega, by have := hq.2; omega⟩) _ _ (Nd.tight _ _ ht2)), Nds.none⟩
      obtain ⟨k3, hk3⟩ : ∃ q, q = w2.heap.size := ⟨_, rfl⟩
      have HK3 : Hid (W.heap.size ≤ k3) := by unfold Hid; omega
      have HW3 := hide hw3
      rw [← hk3] at O3 T3
      clear hr2 hm2 ht2 J b3 hw3
      go_wp2_with fail
      rw [← HW3.out, ← hk3]
      clear hk3 HW3 HB1
      go_loopg [7] n (fun G v7 Wr => ∃ (m : Nat) (l : List Tree) (s : S) (ps : List Value), G = m ∧ m ≤ n ∧ l.length + m ≤ n + 1 ∧ Hid (r = items (Yn.field ws) m l s) ∧ Hid (Wr.ownsRow 0 23 1 v7 l.length ps) ∧ Hid (∀ q, v7.ownBlock = some q → W.heap.size ≤ q) ∧ Hid (Nds (fun q => W.heap.size ≤ q ∧ v7.ownBlock ≠ some q) Wr l ps) ∧ Hid (Rd Wr B k ws s) ∧ Hid (Mv W Wr (fun j => j = k)))
      case atStart => exact ⟨n, [y], s1, _, rfl, Nat.le_refl _, by simp; omega, HE, O3, fun q e => by have e' : k3 = q := Option.some.inj e; have := HK3.out; omega, Nds.mono (fun q hq => ⟨hq.1, fun e => hq.2 (Option.some.inj e).symm⟩) _ _ T3.out, R3, M3⟩
      case round =>
        clear HE O3 T3 R3 M3 HK3
        obtain ⟨m0, l, s, ps, hG, hmn, hlm, HEm, HO, HK, HT, HRr, HM⟩ := hrel
        obtain ⟨m, rfl⟩ : ∃ m', m0 = m' + 1 := by
          cases m0 with
          | zero => exact absurd (by rw [HEm.out, items]) HNE.out
          | succ m' => exact ⟨m', rfl⟩
        have he := HEm.out
        rw [items] at he
        have HE1 := hide he
        have J2 := hide (takeIf_any HRr.out cCom (by decide))
        obtain ⟨a7, c7, rfl⟩ := own_len HO.out
        have hcap := own_cap HO.out
        clear he HEm
        cases b2 : isAt s cCom with
        | false =>
          rw [b2] at J2
          have ER : r = .ok l s := by rw [HE1.out, b2]; rfl
          simp only [Bool.false_eq_true, if_false] at J2
          clear b2
          go_wp2_with fail
          refine J2.out.mono ?_
          rintro e w4 ⟨rfl, hr4, hm4⟩
          have R4 := hide hr4
          have M4 := hide (HM.out.trans hm4 (fun _ _ e => e))
          have O4 := hide (hm4.own HO.out (fun q e (e2 : q = k) => by have := HK.out q e; omega))
          have T4 := hide (Nds.mv hm4 (fun q hq (e : q = k) => by have : W.heap.size ≤ q := hq.1; omega) _ _ HT.out)
          clear hr4 hm4 J2
          go_wp2_with fail
          go_ret
          subst ER
          exact ⟨_, rfl, ⟨ps, O4.out, HK.out, T4.out⟩, R4.out, M4.out⟩
        | true =>
          rw [b2] at J2
          have HE2 : Hid (r = (Yn.field ws m (nx s)).bind fun x s => items (Yn.field ws) m (l ++ [x]) s) := by
            unfold Hid
            rw [HE1.out, b2]
            rfl
          simp only [if_true] at J2
          clear b2 HE1
          go_wp2_with fail
          refine J2.out.mono ?_
          rintro e w4 ⟨rfl, hr4, hm4⟩
          have R4 := hide hr4
          have M4 := hide (HM.out.trans hm4 (fun _ _ e => e))
          have O4 := hide (hm4.own HO.out (fun q e (e2 : q = k) => by have := HK.out q e; omega))
          have T4 := hide (Nds.mv hm4 (fun q hq (e : q = k) => by have : W.heap.size ≤ q := hq.1; omega) _ _ HT.out)
          have hz4 := M4.out.size
          clear hr4 hm4 J2 HO HT HRr HM
          go_wp2_with fail
          cases hq : Yn.field ws m (nx s) with
          | out => exact absurd (show r = .out by rw [HE2.out, hq]; rfl) HNE.out
          | no a er =>
            have J := HI.out m (by omega) w4 B k ws (nx s) R4.out (by rw [hq]; intro h; cases h)
            rw [hq] at J
            refine J.mono ?_
            rintro e w5 hp
            have hp2 := Pn.from hp M4.out
            obtain ⟨q, rfl, -⟩ := hp
            have ER : r = .no a er := by rw [HE2.out, hq]; rfl
            subst ER
            exact ⟨rfl, hp2⟩
          | ok z s2 =>
            have J := HI.out m (by omega) w4 B k ws (nx s) R4.out (by rw [hq]; intro h; cases h)
            rw [hq] at J
            have HE3 : Hid (r = items (Yn.field ws) m (l ++ [z]) s2) := by
              unfold Hid
              rw [HE2.out, hq]
              rfl
            clear hq HE2
            refine J.mono ?_
            rintro e w5 ⟨v5, rfl, ht5, hr5, hm5⟩
            obtain ⟨g5, rfl⟩ := Nd.ptr ht5
            have R5 := hide hr5
            have M5 := hide (M4.out.trans hm5 (fun _ _ e => e))
            have O5 := hide (hm5.own O4.out (fun q e (e2 : q = k) => by have := HK.out q e; omega))
            have OL := hide O4.out.lt
            have T5 := hide (Nds.mv hm5 (fun q hq (e : q = k) => by have : W.heap.size ≤ q := hq.1.1; omega) _ _ (Nds.tight _ _ T4.out))
            have Z5 := hide (Nd.tight _ _ ht5)
            have hz5 := hm5.size
            clear hr5 hm5 ht5 J T4 O4
            go_wp2_with (at_builtin; refine wpList_append_own_at _ rfl _ _ 49 rfl 0 23 i0 (.pointer none) 1 8 und49 hi0 hz0 hz1 hz2 rfl (by decide) _ l.length ps rfl (O5.out.alloc _) ⟨w5.heap.size, 0, none⟩ 1 1 [.pointer (some ⟨g5, 0, none⟩)] rfl rfl ?c1 ?c2 (by unfold maxLen; omega) (by omega) (Nat.zero_le _) ?_)
            case c1 =>
              intro j u hj
              match j, hj with
              | 0, hj => simp at hj; subst hj; simp [Addr.add]
            case c2 =>
              intro u hu
              simp at hu
              subst hu
              rfl
            intro v9 w9 ho9 hg9 _ ha9
            have b6 := below_alloc w5 (.cells #[.pointer (some ⟨g5, 0, none⟩)] 23)
            have hm9 : Mv w5 w9 (fun q => (Value.slice a7 l.length c7).ownBlock = some q) := ((Mv.refl w5 (fun q => (Value.slice a7 l.length c7).ownBlock = some q)).later b6).grown hg9 (fun q _ e => e)
            have hv9 : ∀ q, v9.ownBlock = some q → (Value.slice a7 l.length c7).ownBlock = some q ∨ q = w5.heap.size + 1 := fun q e => by
              rcases ha9 with c | c
              · rw [c] at e
                exact .inl e
              · rw [c] at e
                have := Option.some.inj e
                right
                exact this.symm
            have O9 : Hid (w9.ownsRow 0 23 1 v9 (l ++ [z]).length (ps ++ [.pointer (some ⟨g5, 0, none⟩)])) := by
              unfold Hid
              rw [List.length_append]
              exact ho9
            have K9 : Hid (∀ q, v9.ownBlock = some q → W.heap.size ≤ q) := fun q e => by
              rcases hv9 q e with c | c
              · exact HK.out q c
              · have := M5.out.size
                omega
            have T9 : Hid (Nds (fun q => W.heap.size ≤ q ∧ v9.ownBlock ≠ some q) w9 (l ++ [z]) (ps ++ [.pointer (some ⟨g5, 0, none⟩)])) := by
              refine Nds.snoc (Nds.mono (fun q hq => ⟨hq.1.1, fun e => ?_⟩) _ _ (Nds.mv hm9 (fun q hq e => hq.1.2 e) _ _ T5.out)) (Nd.mono (fun q hq => ⟨by have : w4.heap.size ≤ q := hq.1; omega, fun e => ?_⟩) _ _ (Nd.mv hm9 (fun q hq e => by have := (OL.out q e).2; have : w4.heap.size ≤ q := hq.1; omega) _ _ Z5.out))
              · rcases hv9 q e with c | c
                · exact hq.1.2 c
                · have := hq.2
                  omega
              · rcases hv9 q e with c | c
                · have := (OL.out q c).2
                  have : w4.heap.size ≤ q := hq.1
                  omega
                · have := hq.2
                  omega
            have R9 := hide (R5.out.mv hm9 (fun q e => by
              have h1 := HK.out q e
              have := R5.out.1
              omega))
            have M9 : Hid (Mv W w9 (fun j => j = k)) := M5.out.trans hm9 (fun q hq e => by have := HK.out q e; omega)
            clear ho9 hg9 ha9 hm9 hv9 b6 T5 Z5 O5
            go_wp2_with fail
            go_roundg m
            case measure => omega
            case rel => exact ⟨m, l ++ [z], s2, _, rfl, by omega, by simp; omega, HE3, O9, K9, T9, R9, M9⟩
end Go.Proofs.YtmfoehaeejhlpaaGreatDoor

/-
  The reader: parts.
-/
namespace Go.Proofs.YtmfoehaeejhlpaaGreatDoor
open Go.RowKit Yn
set_option maxRecDepth 100000
theorem field_de {ws : List ByteArray} (n : Nat) (s : S) (t : Tree) (s' : S) (h : Yn.field ws n s = .ok t s') : s'.de = s.de := by
  unfold Yn.field at h
  obtain ⟨x, s1, h1, h⟩ := bind_ok h
  obtain ⟨y, s2, h2, h⟩ := bind_ok h
  obtain ⟨z, s3, h3, h⟩ := bind_ok h
  cases h
  exact ((expr_de ws n).1 _ _ _ h3).trans ((take_de h2).trans (name_de h1))
theorem part_list (ws : List ByteArray) (n : Nat) (s : S) : Yn.part ws n s = (name ws s).bind fun t s1 => (openS cLb s1).bind fun _ s2 => (listS (Yn.field ws) n cRb s2).bind fun l s3 => (take cRb s3).bind fun _ s4 => .ok (.mk 23 t 0 l (hd s).a) (leave s4) := by
  unfold Yn.part
  congr 1
  funext t s1
  congr 1
  funext _ s2
  congr 1
  unfold listS
  split
  · rfl
  · congr 1
    funext x s
    exact fields_items ws n [x] s
theorem part_de {ws : List ByteArray} (n : Nat) (s : S) (t : Tree) (s' : S) (h : Yn.part ws n s = .ok t s') : s'.de = s.de := by
  rw [part_list] at h
  obtain ⟨x, s1, h1, h⟩ := bind_ok h
  obtain ⟨y, s2, h2, h⟩ := bind_ok h
  obtain ⟨z, s3, h3, h⟩ := bind_ok h
  obtain ⟨z, s4, h4, h⟩ := bind_ok h
  cases h
  have e1 := name_de h1
  have e2 := open_de h2
  have e3 := list_de field_de h3
  have e4 := take_de h4
  rw [leave_de]
  omega
set_option maxHeartbeats 8000000 in
theorem part_any {n : Nat} (hn : n ≤ 1000000) (hc : ∀ m, m ≤ n → Cfd m) {W : World} {B k : Nat} {ws : List ByteArray} {s : S} (hR : Rd W B k ws s) {r : R Tree} (hr : r = Yn.part ws n s) (hne : r ≠ .out) : Calls Tryz.prog 203 #[.pointer (some ⟨k, 0, none⟩)] W (Out (isTree W) W B k ws r) := by
  obtain ⟨i0, hi0, hz0, hz1, hz2⟩ := info_parts infoN
  have hk0 := hR.lt
  have H := hide hR
  have M0 := hide (Mv.refl W (fun j => j = k))
  have HNE := hide hne
  have HE := hide hr
  rw [part_list] at HE
  have HF := hide hc
  clear hc
  clear hR hne hr
  go_enter Tryz.func203, Tryz.ntmps203
  go_wp2_with fail
  refine (node_any H.out 23).mono ?_
  rintro e w1 ⟨g, rfl, hg, hg1, hb⟩
  have R1 := hide (H.out.later hb)
  have M1 := hide (M0.out.later hb)
  have N1 := hide (Np.fresh (lo := W.heap.size) (by have := M0.out.size; omega) hg1)
  clear hb hg1
  clear H M0
  go_wp2_with fail
  refine calls_sub HE.out HNE.out M1.out (fun h => name_any R1.out) (by (intro a er e w' hE hp; have hp2 := hp; obtain ⟨q, hq1, -⟩ := hp; subst hq1; subst hE; exact ⟨rfl, hp2⟩)) ?_
  intro x2 s2 v2 w2 hq hr hv hR hm hM
  have E2 := hide hr
  have R2 := hide hR
  have M2 := hide hM
  have hsz2 : w1.heap.size ≤ w2.heap.size := hm.size
  have N2 := hide (N1.out.mvk hm hk0)
  have hgl2 := N1.out.lt
  subst hv
  clear hq hr hR hm hM
  clear HE R1 M1 N1
  have c3 := N2.out.cells.1.2.1
  have f3 := N2.out.cells.2 1
  have ns := N2.out.setText x2
  have R3 := hide (R2.out.mv ns.2 (fun j (e : j = g) => by have := R2.out.1; have := N2.out.1; omega))
  have M3 := hide (M2.out.trans ns.2 (fun j hj (e : j = g) => by have := N2.out.1; omega))
  have N3 := hide ns.1
  obtain ⟨w3, hw⟩ : ∃ X, X = w2.setCell ⟨g, 1, none⟩ (.string x2) := ⟨_, rfl⟩
  rw [← hw] at R3 M3 N3
  have HW3 := hide hw
  clear hw ns
  clear R2 M2 N2
  go_wp2_with fail
  rw [← HW3.out]
  clear HW3 c3 f3
  refine calls_sub E2.out HNE.out M3.out (fun h => open_any R3.out cLb (by decide)) (by (intro a er e w' hE hp; have hp2 := hp; obtain ⟨q, hq1, -⟩ := hp; subst hq1; subst hE; exact ⟨rfl, hp2⟩)) ?_
  intro x4 s4 v4 w4 hq hr hv hR hm hM
  have E4 := hide hr
  have R4 := hide hR
  have M4 := hide hM
  have hsz4 : w3.heap.size ≤ w4.heap.size := hm.size
  have N4 := hide (N3.out.mvk hm hk0)
  have hgl4 := N3.out.lt
  have D4 := hide (open_de hq)
  subst hv
  clear hq hr hR hm hM
  clear E2 R3 M3 N3
  go_wp2_with fail
  refine calls_sub E4.out HNE.out M4.out (fun h => listF_any hn HF.out R4.out cRb h) (by (intro a er e w' hE hp; have hp2 := hp; obtain ⟨q, hq1, -⟩ := hp; subst hq1; subst hE; exact ⟨rfl, hp2⟩)) ?_
  intro x5 s5 v5 w5 hq hr hv hR hm hM
  have E5 := hide hr
  have R5 := hide hR
  have M5 := hide hM
  have hsz5 : w4.heap.size ≤ w5.heap.size := hm.size
  have N5 := hide (N4.out.mvk hm hk0)
  have hgl5 := N4.out.lt
  have D5 := hide (list_de field_de hq)
  have T5 := hide hv
  clear hq hr hR hm hM hv
  clear E4 R4 M4 N4
  obtain ⟨ps6, ho, hv, hl⟩ := T5.out
  obtain ⟨ao6, cp6, rfl⟩ := own_len ho
  obtain ⟨ao8, c8, ps8, nv⟩ := N5.out.nv
  have c6 := nv.cell
  have f6 := N5.out.cells.2 3
  clear nv
  have ns := N5.out.setList ho (fun q e => by have := hv q e; have := N5.out.1; omega) (Nds.mono (fun q hq => ⟨by have := hq.1; have := N5.out.1; omega, by have := hq.1; omega, hq.2⟩) _ _ hl)
  have R6 := hide (R5.out.mv ns.2 (fun j (e : j = g) => by have := R5.out.1; have := N5.out.1; omega))
  have M6 := hide (M5.out.trans ns.2 (fun j hj (e : j = g) => by have := N5.out.1; omega))
  have N6 := hide ns.1
  obtain ⟨w6, hw⟩ : ∃ X, X = w5.setCell ⟨g, 3, none⟩ (.slice ao6 x5.length cp6) := ⟨_, rfl⟩
  rw [← hw] at R6 M6 N6
  have HW6 := hide hw
  clear hw ns ho hv hl
  clear R5 M5 N5
  go_wp2_with fail
  rw [← HW6.out]
  clear HW6 c6 f6
  refine calls_sub E5.out HNE.out M6.out (fun h => take_any R6.out cRb (by decide)) (by (intro a er e w' hE hp; have hp2 := hp; obtain ⟨q, hq1, -⟩ := hp; subst hq1; subst hE; exact ⟨rfl, hp2⟩)) ?_
  intro x7 s7 v7 w7 hq hr hv hR hm hM
  have E7 := hide hr
  have R7 := hide hR
  have M7 := hide hM
  have hsz7 : w6.heap.size ≤ w7.heap.size := hm.size
  have N7 := hide (N6.out.mvk hm hk0)
  have hgl7 := N6.out.lt
  have D7 := hide (take_de hq)
  subst hv
  unfold tokV
  clear hq hr hR hm hM
  clear E5 R6 M6 N6
  go_wp2_with fail
  have hde : 1 ≤ s7.de := by
    have := D4.out
    have := D5.out
    have := D7.out
    omega
  refine (leave_any R7.out hde).mono ?_
  rintro e w8 ⟨rfl, hR, hm⟩
  have R8 := hide hR
  have M8 := hide (M7.out.trans hm (fun _ _ e => e))
  have N8 := hide (N7.out.mvk hm hk0)
  clear hR hm
  clear R7 M7 N7
  go_wp2_with fail
  go_ret
  have ER := E7.out
  subst ER
  exact ⟨_, rfl, N8.out.done, R8.out, M8.out⟩
def Cpt (n : Nat) : Prop := ∀ (W : World) (B k : Nat) (ws : List ByteArray) (s : S), Rd W B k ws s → Yn.part ws n s ≠ .out → Calls Tryz.prog 203 #[.pointer (some ⟨k, 0, none⟩)] W (Out (isTree W) W B k ws (Yn.part ws n s))
theorem fields_all (hP : Pz) {n : Nat} (hn : n ≤ 1000000) : ∀ m, m ≤ n → Cfd m := fun m hm _ _ _ _ _ hR h => field_any (cond_all hP (by omega)) hR rfl h
theorem parts_all (hP : Pz) {n : Nat} (hn : n ≤ 1000000) : ∀ m, m ≤ n → Cpt m := fun m hm _ _ _ _ _ hR h => part_any (by omega) (fields_all hP (by omega)) hR rfl h
end Go.Proofs.YtmfoehaeejhlpaaGreatDoor

/-
  The reader: list, of what function 203 reads.
-/
namespace Go.Proofs.YtmfoehaeejhlpaaGreatDoor
open Go.RowKit Yn
set_option maxRecDepth 100000
set_option maxHeartbeats 8000000 in
theorem listP_any {n : Nat} (hn : n ≤ 1000000) (hI : ∀ m, m ≤ n → Cpt m) {W : World} {B k : Nat} {ws : List ByteArray} {s0 : S} (hR : Rd W B k ws s0) (x : ByteArray) (hne : listS (Yn.part ws) n x s0 ≠ .out) : Calls Tryz.prog 202 #[.pointer (some ⟨k, 0, none⟩), .string x, .func (.func 203) #[] #[]] W (Out (isList W) W B k ws (listS (Yn.part ws) n x s0)) := by
  obtain ⟨i0, hi0, hz0, hz1, hz2⟩ := info_parts infoN
  have HI := hide hI
  have hkW := hR.lt
  have J1 := hide (isAt_any hR x)
  have H := hide hR
  obtain ⟨r, hr⟩ : ∃ r, r = listS (Yn.part ws) n x s0 := ⟨_, rfl⟩
  rw [← hr] at hne ⊢
  have HNE := hide hne
  unfold listS at hr
  clear hI hR hne
  cases b : isAt s0 x with
  | true =>
    rw [b] at J1 hr
    have ER : r = .ok [] s0 := hr
    clear hr b
    go_enter Tryz.func202, Tryz.ntmps202
    go_wp2_with fail
    refine J1.out.mono ?_
    rintro e w1 ⟨rfl, hb1⟩
    have HB1 := hide hb1
    clear hb1 J1
    go_wp2_with fail
    go_ret
    subst ER
    exact ⟨_, rfl, ⟨[], World.ownsRow_nil _ _ _ _, fun q e => by simp [Value.ownBlock] at e, Nds.none⟩, H.out.later HB1.out, Mv.of_below HB1.out _⟩
  | false =>
    rw [b] at J1 hr
    have HE0 : Hid (r = (Yn.part ws n s0).bind fun y s => items (Yn.part ws) n [y] s) := hr
    clear hr b
    go_enter Tryz.func202, Tryz.ntmps202
    go_wp2_with fail
    refine J1.out.mono ?_
    rintro e w1 ⟨rfl, hb1⟩
    have HB1 := hide hb1
    clear hb1 J1
    go_wp2_with fail
    cases hq : Yn.part ws n s0 with
    | out => exact absurd (show r = .out by rw [HE0.out, hq]; rfl) HNE.out
    | no a er =>
      have J := HI.out n (Nat.le_refl _) w1 B k ws s0 (H.out.later HB1.out) (by rw [hq]; intro h; cases h)
      rw [hq] at J
      refine J.mono ?_
      rintro e w2 hp
      have hp2 := Pn.from hp (Mv.of_below HB1.out (fun j => j = k))
      obtain ⟨q, rfl, -⟩ := hp
      have ER : r = .no a er := by rw [HE0.out, hq]; rfl
      subst ER
      exact ⟨rfl, hp2⟩
    | ok y s1 =>
      have J := HI.out n (Nat.le_refl _) w1 B k ws s0 (H.out.later HB1.out) (by rw [hq]; intro h; cases h)
      rw [hq] at J
      have HE : Hid (r = items (Yn.part ws) n [y] s1) := by
        unfold Hid
        rw [HE0.out, hq]
        rfl
      clear hq HE0
      refine J.mono ?_
      rintro e w2 ⟨v2, rfl, ht2, hr2, hm2⟩
      obtain ⟨g2, rfl⟩ := Nd.ptr ht2
      have hz2' := HB1.out.size
      have hz3' := hm2.size
      obtain ⟨w3, hw3⟩ : ∃ X, X = w2.alloc (.cells #[.pointer (some ⟨g2, 0, none⟩)] 23) := ⟨_, rfl⟩
      have b3 : Below w2.heap.size w2 w3 := hw3 ▸ below_alloc w2 _
      have O3 : Hid (w3.ownsRow 0 23 1 (.slice (some ⟨w2.heap.size, 0, none⟩) 1 1) 1 [.pointer (some ⟨g2, 0, none⟩)]) := by
        rw [hw3]
        exact World.ownsRow_lit w2 #[.pointer (some ⟨g2, 0, none⟩)] 1 (Nat.zero_le _) (by unfold maxLen; omega) rfl
      have R3 := hide (hr2.later b3)
      have M3 := hide (((Mv.of_below HB1.out (fun j => j = k)).trans hm2 (fun _ _ e => e)).later b3)
      have T3 : Hid (Nds (fun q => W.heap.size ≤ q ∧ q ≠ w2.heap.size) w3 [y] [.pointer (some ⟨g2, 0, none⟩)]) := by
        unfold Hid
        rw [Nds]
        exact ⟨_, _, rfl, Nd.mv (Mv.of_below b3 (fun _ => False)) (fun _ _ e => e) _ _ (Nd.mono (fun q hq => ⟨by have : w1.heap.size ≤ q := hq.1; omega, by have := hq.2; omega⟩) _ _ (Nd.tight _ _ ht2)), Nds.none⟩
      obtain ⟨k3, hk3⟩ : ∃ q, q = w2.heap.size := ⟨_, rfl⟩
      have HK3 : Hid (W.heap.size ≤ k3) := by unfold Hid; omega
      have HW3 := hide hw3
      rw [← hk3] at O3 T3
      clear hr2 hm2 ht2 J b3 hw3
      go_wp2_with fail
      rw [← HW3.out, ← hk3]
      clear hk3 HW3 HB1
      go_loopg [7] n (fun G v7 Wr => ∃ (m : Nat) (l : List Tree) (s : S) (ps : List Value), G = m ∧ m ≤ n ∧ l.length + m ≤ n + 1 ∧ Hid (r = items (Yn.part ws) m l s) ∧ Hid (Wr.ownsRow 0 23 1 v7 l.length ps) ∧ Hid (∀ q, v7.ownBlock = some q → W.heap.size ≤ q) ∧ Hid (Nds (fun q => W.heap.size ≤ q ∧ v7.ownBlock ≠ some q) Wr l ps) ∧ Hid (Rd Wr B k ws s) ∧ Hid (Mv W Wr (fun j => j = k)))
      case atStart => exact ⟨n, [y], s1, _, rfl, Nat.le_refl _, by simp; omega, HE, O3, fun q e => by have e' : k3 = q := Option.some.inj e; have := HK3.out; omega, Nds.mono (fun q hq => ⟨hq.1, fun e => hq.2 (Option.some.inj e).symm⟩) _ _ T3.out, R3, M3⟩
      case round =>
        clear HE O3 T3 R3 M3 HK3
        obtain ⟨m0, l, s, ps, hG, hmn, hlm, HEm, HO, HK, HT, HRr, HM⟩ := hrel
        obtain ⟨m, rfl⟩ : ∃ m', m0 = m' + 1 := by
          cases m0 with
          | zero => exact absurd (by rw [HEm.out, items]) HNE.out
          | succ m' => exact ⟨m', rfl⟩
        have he := HEm.out
        rw [items] at he
        have HE1 := hide he
        have J2 := hide (takeIf_any HRr.out cCom (by decide))
        obtain ⟨a7, c7, rfl⟩ := own_len HO.out
        have hcap := own_cap HO.out
        clear he HEm
        cases b2 : isAt s cCom with
        | false =>
          rw [b2] at J2
          have ER : r = .ok l s := by rw [HE1.out, b2]; rfl
          simp only [Bool.false_eq_true, if_false] at J2
          clear b2
          go_wp2_with fail
          refine J2.out.mono ?_
          rintro e w4 ⟨rfl, hr4, hm4⟩
          have R4 := hide hr4
          have M4 := hide (HM.out.trans hm4 (fun _ _ e => e))
          have O4 := hide (hm4.own HO.out (fun q e (e2 : q = k) => by have := HK.out q e; omega))
          have T4 := hide (Nds.mv hm4 (fun q hq (e : q = k) => by have : W.heap.size ≤ q := hq.1; omega) _ _ HT.out)
          clear hr4 hm4 J2
          go_wp2_with fail
          go_ret
          subst ER
          exact ⟨_, rfl, ⟨ps, O4.out, HK.out, T4.out⟩, R4.out, M4.out⟩
        | true =>
          rw [b2] at J2
          have HE2 : Hid (r = (Yn.part ws m (nx s)).bind fun x s => items (Yn.part ws) m (l ++ [x]) s) := by
            unfold Hid
            rw [HE1.out, b2]
            rfl
          simp only [if_true] at J2
          clear b2 HE1
          go_wp2_with fail
          refine J2.out.mono ?_
          rintro e w4 ⟨rfl, hr4, hm4⟩
          have R4 := hide hr4
          have M4 := hide (HM.out.trans hm4 (fun _ _ e => e))
          have O4 := hide (hm4.own HO.out (fun q e (e2 : q = k) => by have := HK.out q e; omega))
          have T4 := hide (Nds.mv hm4 (fun q hq (e : q = k) => by have : W.heap.size ≤ q := hq.1; omega) _ _ HT.out)
          have hz4 := M4.out.size
          clear hr4 hm4 J2 HO HT HRr HM
          go_wp2_with fail
          cases hq : Yn.part ws m (nx s) with
          | out => exact absurd (show r = .out by rw [HE2.out, hq]; rfl) HNE.out
          | no a er =>
            have J := HI.out m (by omega) w4 B k ws (nx s) R4.out (by rw [hq]; intro h; cases h)
            rw [hq] at J
            refine J.mono ?_
            rintro e w5 hp
            have hp2 := Pn.from hp M4.out
            obtain ⟨q, rfl, -⟩ := hp
            have ER : r = .no a er := by rw [HE2.out, hq]; rfl
            subst ER
            exact ⟨rfl, hp2⟩
          | ok z s2 =>
            have J := HI.out m (by omega) w4 B k ws (nx s) R4.out (by rw [hq]; intro h; cases h)
            rw [hq] at J
            have HE3 : Hid (r = items (Yn.part ws) m (l ++ [z]) s2) := by
              unfold Hid
              rw [HE2.out, hq]
              rfl
            clear hq HE2
            refine J.mono ?_
            rintro e w5 ⟨v5, rfl, ht5, hr5, hm5⟩
            obtain ⟨g5, rfl⟩ := Nd.ptr ht5
            have R5 := hide hr5
            have M5 := hide (M4.out.trans hm5 (fun _ _ e => e))
            have O5 := hide (hm5.own O4.out (fun q e (e2 : q = k) => by have := HK.out q e; omega))
            have OL := hide O4.out.lt
            have T5 := hide (Nds.mv hm5 (fun q hq (e : q = k) => by have : W.heap.size ≤ q := hq.1.1; omega) _ _ (Nds.tight _ _ T4.out))
            have Z5 := hide (Nd.tight _ _ ht5)
            have hz5 := hm5.size
            clear hr5 hm5 ht5 J T4 O4
            go_wp2_with (at_builtin; refine wpList_append_own_at _ rfl _ _ 49 rfl 0 23 i0 (.pointer none) 1 8 und49 hi0 hz0 hz1 hz2 rfl (by decide) _ l.length ps rfl (O5.out.alloc _) ⟨w5.heap.size, 0, none⟩ 1 1 [.pointer (some ⟨g5, 0, none⟩)] rfl rfl ?c1 ?c2 (by unfold maxLen; omega) (by omega) (Nat.zero_le _) ?_)
            case c1 =>
              intro j u hj
              match j, hj with
              | 0, hj => simp at hj; subst hj; simp [Addr.add]
            case c2 =>
              intro u hu
              simp at hu
              subst hu
              rfl
            intro v9 w9 ho9 hg9 _ ha9
            have b6 := below_alloc w5 (.cells #[.pointer (some ⟨g5, 0, none⟩)] 23)
            have hm9 : Mv w5 w9 (fun q => (Value.slice a7 l.length c7).ownBlock = some q) := ((Mv.refl w5 (fun q => (Value.slice a7 l.length c7).ownBlock = some q)).later b6).grown hg9 (fun q _ e => e)
            have hv9 : ∀ q, v9.ownBlock = some q → (Value.slice a7 l.length c7).ownBlock = some q ∨ q = w5.heap.size + 1 := fun q e => by
              rcases ha9 with c | c
              · rw [c] at e
                exact .inl e
              · rw [c] at e
                have := Option.some.inj e
                right
                exact this.symm
            have O9 : Hid (w9.ownsRow 0 23 1 v9 (l ++ [z]).length (ps ++ [.pointer (some ⟨g5, 0, none⟩)])) := by
              unfold Hid
              rw [List.length_append]
              exact ho9
            have K9 : Hid (∀ q, v9.ownBlock = some q → W.heap.size ≤ q) := fun q e => by
              rcases hv9 q e with c | c
              · exact HK.out q c
              · have := M5.out.size
                omega
            have T9 : Hid (Nds (fun q => W.heap.size ≤ q ∧ v9.ownBlock ≠ some q) w9 (l ++ [z]) (ps ++ [.pointer (some ⟨g5, 0, none⟩)])) := by
              refine Nds.snoc (Nds.mono (fun q hq => ⟨hq.1.1, fun e => ?_⟩) _ _ (Nds.mv hm9 (fun q hq e => hq.1.2 e) _ _ T5.out)) (Nd.mono (fun q hq => ⟨by have : w4.heap.size ≤ q := hq.1; omega, fun e => ?_⟩) _ _ (Nd.mv hm9 (fun q hq e => by have := (OL.out q e).2; have : w4.heap.size ≤ q := hq.1; omega) _ _ Z5.out))
              · rcases hv9 q e with c | c
                · exact hq.1.2 c
                · have := hq.2
                  omega
              · rcases hv9 q e with c | c
                · have := (OL.out q c).2
                  have : w4.heap.size ≤ q := hq.1
                  omega
                · have := hq.2
                  omega
            have R9 := hide (R5.out.mv hm9 (fun q e => by
              have h1 := HK.out q e
              have := R5.out.1
              omega))
            have M9 : Hid (Mv W w9 (fun j => j = k)) := M5.out.trans hm9 (fun q hq e => by have := HK.out q e; omega)
            clear ho9 hg9 ha9 hm9 hv9 b6 T5 Z5 O5
            go_wp2_with fail
            go_roundg m
            case measure => omega
            case rel => exact ⟨m, l ++ [z], s2, _, rfl, by omega, by simp; omega, HE3, O9, K9, T9, R9, M9⟩
end Go.Proofs.YtmfoehaeejhlpaaGreatDoor
