/-
  CodeEncodes: its last part: the bytes that came out are their owner's.
-/
import Derived.Test.YtpolajoephjdhaaGreatDoorEfB
namespace Go.Proofs.YtpolajoephjdhaaGreatDoor
open Go.RowKit
set_option maxRecDepth 1000000
theorem infoLB : (Tryz.prog.info? 22).map (fun i => (i.zero, i.size, i.bytes)) = some (some (.slice none 0 0), 1, 24) := by kernel_rfl
set_option maxHeartbeats 32000000 in
theorem enc9 {W we : World} {N5 P1 P2 : Nat} {A : Act} {ab ax ad : Option Addr} {eb : List UInt8} {nb cx cd : Nat} {K : Act → World → Prop} (hs : A.tmps.size = 478) (hd : A.defers = []) (h15 : A.tmps.getD 15 undef = .slice ab eb.length nb) (h36 : A.tmps.getD 36 undef = .slice ax 7 cx) (h38 : A.tmps.getD 38 undef = .slice ad eb.length cd) (q1 : we.ownsRow N5 5 1 (.slice ab eb.length nb) eb.length (Lib.byteCells eb)) (q2 : we.ownsRow N5 5 1 (.slice ax 7 cx) 7 (Lib.byteCells [0, 1, 1, 102, 0, 0, 0])) (q3 : we.ownsRow N5 5 1 (.slice ad eb.length cd) eb.length (Lib.byteCells eb)) (bx : ∀ j, (Value.slice ab eb.length nb).ownBlock = some j → j < P1) (xx : ∀ j, (Value.slice ax 7 cx).ownBlock = some j → P1 ≤ j ∧ j < P2) (dx : ∀ j, (Value.slice ad eb.length cd).ownBlock = some j → P2 ≤ j) (gcd : P1 ≤ P2) (EBL : eb.length ≤ 2000000) (hWN : W.heap.size ≤ N5) (g5e : N5 ≤ we.heap.size) (BWe : Below W.heap.size W we) (hK : Nxt 25 W K) : Code.wp Tryz.prog (headN 24 bodyE) (Exit.then K (QE W)) A we := by
  obtain ⟨s, eA, hsk⟩ := act_open A _ hs hd
  rw [hsk] at h15 h36 h38
  rw [eA, h15, h36, h38]
  clear eA hsk hs hd h15 h36 h38
  unfold Nxt at hK
  unfold QE at hK ⊢
  conv => arg 2; whnf
  conv at hK => intro a w; arg 1; arg 2; whnf
  obtain ⟨wL, hwL⟩ : ∃ X, X = we.alloc (.cells #[.slice ab eb.length nb, .slice ax 7 cx, .slice ad eb.length cd] 22) := ⟨_, rfl⟩
  obtain ⟨Q5, hQ5⟩ : ∃ X, X = we.heap.size := ⟨_, rfl⟩
  have bL : Below we.heap.size we wL := hwL ▸ below_alloc we _
  have nL : wL.heap[Q5]? = some (.cells #[.slice ab eb.length nb, .slice ax 7 cx, .slice ad eb.length cd] 22 (0, 0)) := by rw [hwL, hQ5]; exact heap_alloc_new we _
  have o1 := own_later q1 bL
  have o2 := own_later q2 bL
  have o3 := own_later q3 bL
  obtain ⟨xs, hxs⟩ : ∃ x, x = [Value.slice ab eb.length nb, .slice ax 7 cx, .slice ad eb.length cd] := ⟨_, rfl⟩
  obtain ⟨lb, hlb⟩ : ∃ x, x = [Lib.byteCells eb, Lib.byteCells [0, 1, 1, 102, 0, 0, 0], Lib.byteCells eb] := ⟨_, rfl⟩
  have hM5 := three_mk (lx := [0, 1, 1, 102, 0, 0, 0]) o1 o2 o3 bx xx dx gcd
  have hz5 := three_len (lx := [0, 1, 1, 102, 0, 0, 0]) EBL (by decide)
  have hO5 := three_row nL
  rw [← hxs, ← hlb] at hM5
  rw [← hlb] at hz5
  rw [← hxs] at hO5
  obtain ⟨vl, hvl⟩ : ∃ v, v = Value.slice (some ⟨Q5, 0, none⟩) 3 3 := ⟨_, rfl⟩
  rw [← hvl] at hO5
  have x3 : xs.length = 3 := by rw [hxs]; rfl
  have hWe : W.heap.size ≤ we.heap.size := Nat.le_trans hWN g5e
  have hN5 : N5 ≤ wL.heap.size := Nat.le_trans g5e bL.size
  have BWL : Below W.heap.size W wL := below_on BWe bL
  have FWD := hide (three_fwd BWL hO5 hM5 hWN (by rw [hQ5]; exact hWe))
  go_upto_region 75 with fail
  rw [← hQ5, ← hwL, ← hvl]
  obtain ⟨n, hnl⟩ : ∃ n, n = xs.length := ⟨_, rfl⟩
  have HN3 : Hid (n = 3) := hnl.trans x3
  rw [← hnl] at hO5
  obtain ⟨ao, c, rfl⟩ := own_len hO5
  have HO := hide hO5
  have HM := hide hM5
  have HN := hide hnl
  have HQ := hide (three_apart hO5 hM5)
  have VH : Hid (∀ wr, Mv wL wr (fun j => ∃ v ∈ xs, v.ownBlock = some j) → wr.ownsRow Q5 22 1 (.slice ao n c) n xs) := fun wr hm => hm.own HO.out (fun g e1 e2 => by
    obtain ⟨v, hv, e⟩ := e2
    exact HQ.out v hv g e e1)
  have hcapL := own_cap hO5
  have hn : n ≤ 3 := by have := HN3.out; omega
  clear hO5 hM5 hnl hvl hwL hQ5 bL nL o1 o2 o3 q1 q2 q3 bx xx dx hxs hlb x3 BWL gcd g5e EBL hWN hWe BWe
  go_wp2_with fail
  go_loopw [41] (fun v4 wr => ∃ i : Nat, v4 = .int .i64 (i : Int) ∧ i ≤ n ∧ Hid (MkY wr N5 xs lb i) ∧ Hid (Mv wL wr (fun j => ∃ v ∈ xs, v.ownBlock = some j))) (fun v4 _ => n - (intOf v4).toNat)
  case atStart => exact ⟨0, rfl, by omega, HM.out, Mv.refl _ _⟩
  case round =>
    obtain ⟨i, rfl, hi1, hmk, hmv⟩ := hrel
    by_cases hlt : i < n
    · have hix : i < xs.length := by rw [← HN.out]; exact hlt
      have hil : i < lb.length := by rw [← hmk.out.1]; exact hix
      have o0 := hmk.out.2.2 i hix hil
      rw [if_neg (by omega)] at o0
      have hxm : xs[i] ∈ xs := List.getElem_mem hix
      have hsz := hz5 _ (List.getElem_mem hil)
      obtain ⟨l, hl⟩ : ∃ l, l = lb[i] := ⟨_, rfl⟩
      obtain ⟨xv, hxv⟩ : ∃ v, v = xs[i] := ⟨_, rfl⟩
      rw [← hl, ← hxv] at o0
      rw [← hl] at hsz
      have NXT : Hid (∀ w', Mv wr w' (fun j => xv.ownBlock = some j) → w'.ownsRow N5 5 1 xv l.length (List.replicate l.length (mkY i)) → MkY w' N5 xs lb (i + 1) ∧ Mv wL w' (fun j => ∃ v ∈ xs, v.ownBlock = some j)) := fun w' hm ho => by
        subst hl hxv
        exact ⟨hmk.out.next hix hil hm ho, hmv.out.trans hm (fun j _ e => ⟨_, hxm, e⟩)⟩
      have CX : Hid (∀ w', Mv wr w' (fun j => xv.ownBlock = some j) → w'.ownsRow Q5 22 1 (.slice ao n c) n xs ∧ xs[i]? = some xv) := fun w' hm => ⟨hm.own (VH.out wr hmv.out) (fun g e1 e2 => HQ.out xv (hxv ▸ hxm) g e2 e1), by rw [hxv]; exact List.getElem?_eq_getElem hix⟩
      have O0 := hide o0
      obtain ⟨ax, cx, rfl⟩ := own_len o0
      obtain ⟨m, hm⟩ : ∃ m, m = l.length := ⟨_, rfl⟩
      rw [← hm] at hsz
      have HML := hide hm
      have hlt' : (i : Int) < (n : Int) := by omega
      have h3a : (i : Int) < 3 := by have := HN3.out; omega
      have h3b : ((i : Int) + 1) % 256 = (i : Int) + 1 := by have := HN3.out; omega
      clear hl hxv hxm o0 hm
      rw [← HML.out] at O0 NXT CX
      go_wp2_with fail
      go_loopw [42] (fun v5 wx => ∃ k : Nat, v5 = .int .i64 (k : Int) ∧ k ≤ m ∧ Hid (wx.ownsRow N5 5 1 (.slice ax m cx) m (marY i l k)) ∧ Hid (Mv wr wx (fun j => (Value.slice ax m cx).ownBlock = some j))) (fun v5 _ => m - (intOf v5).toNat)
      case atStart => exact ⟨0, rfl, by omega, O0.out, Mv.refl _ _⟩
      case round =>
        obtain ⟨k, rfl, hk, ho, hm2⟩ := hrel
        obtain ⟨hh, hxi⟩ := CX.out wr hm2.out
        obtain ⟨gq, cq, e, hc⟩ := own_some hh (by omega)
        injection e with e1 e2 e3
        subst e1 e3
        have y0 := (hc i (by omega)).trans hxi
        clear hc hh hxi e2
        have hlt9 : (i : Int) < (n : Int) := by omega
        by_cases hk2 : k < m
        · obtain ⟨g, c', e, hd⟩ := own_some ho.out (by omega)
          injection e with e1 e2 e3
          subst e1 e3
          have hkm : k < l.length := by rw [← HML.out]; exact hk2
          have hkl : k < (marY i l k).length := by rw [marY_len i l k (by omega)]; exact hkm
          have d0 := (hd k (by omega)).trans (List.getElem?_eq_getElem hkl)
          generalize (marY i l k)[k] = old at d0
          have z0 := ho.out.frozenAt k
          have st1 := (ho.out.stored k (mkY i)).1
          rw [marY_set i l k hkm] at st1
          have NX : Hid ((wr.setCell ⟨g, k, none⟩ (.int .u8 ((i : Int) + 1))).ownsRow N5 5 1 (.slice (some ⟨g, 0, none⟩) m cx) m (marY i l (k + 1))) := st1
          have MX := hide (hm2.out.trans ((Mv.refl wr (fun j => (Value.slice (some ⟨g, 0, none⟩) m cx).ownBlock = some j)).set (g := g) rfl k (.int .u8 ((i : Int) + 1))) (fun _ _ e => e))
          have hk9 : (k : Int) < (m : Int) := by omega
          clear hd st1 e2 hkl
          go_wp2_with fail
          exact ⟨⟨k + 1, by go_num, by omega, NX.out, MX.out⟩, by simp [intOf]; omega⟩
        · obtain rfl : k = m := by omega
          have ho' := ho.out
          have he := marY_end i l
          rw [← HML.out] at he
          rw [he] at ho'
          obtain ⟨n1, n2⟩ := NXT.out wr hm2.out ho'
          have N1 := hide n1
          have N2 := hide n2
          clear n1 n2 ho' he
          go_wp2_with fail
          exact ⟨⟨i + 1, by go_num, by omega, N1.out, N2.out⟩, by simp [intOf]; omega⟩
    · obtain rfl : i = n := by omega
      have h3c : ¬ (i : Int) < 3 := by have := HN3.out; omega
      have PW := hide HM.out.2.1
      have XB : Hid (∀ v ∈ xs, ∀ j, v.ownBlock = some j → j < wL.heap.size) := fun v hv j e => by
        obtain ⟨a, ha, rfl⟩ := List.mem_iff_getElem.1 hv
        exact ((HM.out.2.2 a ha (by rw [← HM.out.1]; exact ha)).lt j e).2
      have OWN : ∀ a (h : a < xs.length) (h' : a < lb.length), wr.ownsRow N5 5 1 xs[a] lb[a].length (List.replicate lb[a].length (mkY a)) := fun a h h' => by
        have := hmk.out.2.2 a h h'
        rw [if_pos (by have := HN.out; omega)] at this
        exact this
      have GR0 : Hid (GroY wL wr N5 Q5 xs lb [] (.slice ao i c)) := ⟨by rw [List.append_nil, List.length_nil, Nat.add_zero, ← HN.out]; exact VH.out wr hmv.out, fun a h h' => own_rdy (OWN a h h'), fun a h => absurd h (by simp), fun a h h' _ => OWN a h h', fun a h => absurd h (by simp), fun a h j e e2 => HQ.out _ (List.getElem_mem h) j e e2, fun a h => absurd h (by simp)⟩
      have MV0 : Hid (Mv wL wr (fun j => (Value.slice ao i c).ownBlock = some j ∨ ∃ v ∈ xs, v.ownBlock = some j)) := hmv.out.mono (fun _ _ e => .inr e)
      have LE : Hid (xs.length = lb.length) := HM.out.1
      obtain ⟨ic5, hi5, hy0, hy1, hy2⟩ := info_parts info5
      clear OWN hmk hmv VH HO
      go_wp2_with fail
      go_loopw [43, 40] (fun v6 vl wr => ∃ (p : Nat) (ys : List Value), v6 = .int .i64 (p : Int) ∧ p ≤ i ∧ Hid (ys.length = p) ∧ Hid (GroY wL wr N5 Q5 xs lb ys vl) ∧ Hid (Mv wL wr (fun j => (Value.slice ao i c).ownBlock = some j ∨ ∃ v ∈ xs, v.ownBlock = some j)) ∧ Hid (∀ j, vl.ownBlock = some j → wL.heap.size ≤ j ∨ (Value.slice ao i c).ownBlock = some j)) (fun v6 _ _ => i - (intOf v6).toNat)
      case atStart => exact ⟨0, [], rfl, by omega, rfl, GR0.out, MV0.out, fun j e => .inr e⟩
      case round =>
        obtain ⟨p, ys, rfl, hp1, hyl, hg, hmv2, hbv⟩ := hrel
        by_cases hlt2 : p < i
        · have hpx : p < xs.length := by rw [← HN.out]; exact hlt2
          have hpl : p < lb.length := by rw [← LE.out]; exact hpx
          obtain ⟨nn, hnn⟩ : ∃ nn, nn = xs.length + ys.length := ⟨_, rfl⟩
          have ROW := hg.out.row
          rw [← hnn] at ROW
          obtain ⟨gq, cq, rfl, hc⟩ := own_some ROW (by omega)
          have y0 : wr.cell? ⟨gq, p, none⟩ = some xs[p] := (hc p (by omega)).trans (by rw [List.getElem?_append_left hpx]; exact List.getElem?_eq_getElem hpx)
          have OW := hide (hg.out.own p hpx hpl (by rw [hyl.out]; exact Nat.le_refl _))
          have RD0 := hide (own_rdy OW.out)
          have hsz := hz5 _ (List.getElem_mem hpl)
          have i1 : (p : Int) < (i : Int) := by omega
          have h3d : (p : Int) < 3 := by have := HN3.out; omega
          have h3e : ((p : Int) + 1) % 256 = (p : Int) + 1 := by have := HN3.out; omega
          have i2 : (p : Int) < (nn : Int) := by omega
          have hcq := own_cap ROW
          have hnb : nn ≤ 2000 := by have := HN.out; have := hyl.out; omega
          have NXT : Hid (∀ (w w9 : World) (v7 vl' : Value), Mv wr w (fun j => (xs[p]).ownBlock = some j) → RdY w xs[p] lb[p].length p → w.ownsRow N5 5 1 v7 (lb[p].length + 70) (List.replicate (lb[p].length + 70) (mkY p)) → (∀ j, v7.ownBlock = some j → wr.heap.size ≤ j ∨ (xs[p]).ownBlock = some j) → Mv w w9 (fun j => (Value.slice (some ⟨gq, 0, none⟩) nn cq).ownBlock = some j) → w9.ownsRow Q5 22 1 vl' (nn + 1) ((xs ++ ys) ++ [v7]) → (∀ j, vl'.ownBlock = some j → w.heap.size ≤ j ∨ (Value.slice (some ⟨gq, 0, none⟩) nn cq).ownBlock = some j) → GroY wL w9 N5 Q5 xs lb (ys ++ [v7]) vl' ∧ Mv wL w9 (fun j => (Value.slice ao i c).ownBlock = some j ∨ ∃ v ∈ xs, v.ownBlock = some j) ∧ (∀ j, vl'.ownBlock = some j → wL.heap.size ≤ j ∨ (Value.slice ao i c).ownBlock = some j) ∧ (ys ++ [v7]).length = p + 1) := by
            intro w w9 v7 vl' m1 rd o bl m2 ho hb
            have hy := hyl.out
            subst hy
            refine ⟨hg.out.next PW.out XB.out hmv2.out.size hpx hpl m1 rd o bl m2 (by rw [← List.append_assoc, ← Nat.add_assoc, ← hnn]; exact ho) (fun j e => (hg.out.row.lt j e).2) hb, ?_, ?_, by simp⟩
            · exact (hmv2.out.trans m1 (fun j _ e => .inr ⟨_, List.getElem_mem hpx, e⟩)).trans m2 (fun j hj e => by
                rcases hbv.out j e with h | h
                · omega
                · exact .inl h)
            · intro j e
              rcases hb j e with h | h
              · have := hmv2.out.size
                have := m1.size
                exact .inl (by omega)
              · exact hbv.out j h
          have HW : Hid (∀ w, Mv wr w (fun j => (xs[p]).ownBlock = some j) → w.ownsRow Q5 22 1 (.slice (some ⟨gq, 0, none⟩) nn cq) nn (xs ++ ys)) := fun w m => m.own ROW (fun g e1 e2 => hg.out.offX p hpx g e2 e1)
          have HNs : Hid (N5 ≤ wr.heap.size ∧ Q5 ≤ wr.heap.size) := ⟨Nat.le_trans hN5 hmv2.out.size, by have := (ROW.lt gq rfl); omega⟩
          obtain ⟨xv, hxv⟩ : ∃ v, v = xs[p] := ⟨_, rfl⟩
          obtain ⟨m, hm⟩ : ∃ m, m = lb[p].length := ⟨_, rfl⟩
          obtain ⟨zs, hzs⟩ : ∃ z, z = xs ++ ys := ⟨_, rfl⟩
          rw [← hxv] at y0 OW RD0 NXT HW
          rw [← hm] at OW RD0 NXT hsz
          rw [← hzs] at NXT HW
          clear ROW hc hnn hxv hm hzs hpx hpl GR0 MV0
          obtain ⟨wq, hwq⟩ : ∃ X, X = wr := ⟨_, rfl⟩
          subst hwq
          go_wp2_with fail
          go_loopw [45, 44] (fun v8 v7 wx => ∃ k : Nat, v8 = .int .i64 (k : Int) ∧ k ≤ 70 ∧ Hid (wx.ownsRow N5 5 1 v7 (m + k) (List.replicate (m + k) (mkY p))) ∧ Hid (Mv wq wx (fun j => xv.ownBlock = some j)) ∧ Hid (RdY wx xv m p) ∧ Hid (∀ j, v7.ownBlock = some j → wq.heap.size ≤ j ∨ xv.ownBlock = some j)) (fun v8 _ _ => 70 - (intOf v8).toNat)
          case atStart => exact ⟨0, rfl, by omega, OW.out, Mv.refl _ _, RD0.out, fun j e => .inr e⟩
          case round =>
            obtain ⟨k, rfl, hk, ho, hm2, hrd, hbl⟩ := hrel
            have hs2 := hm2.out.size
            have hns := HNs.out
            by_cases hk2 : k < 70
            · have o1 := ho.out
              have hmk : m + k ≤ 2000100 := by omega
              clear y0
              go_wp2_with (at_builtin; refine wpList_append_keep rfl _ _ 22 rfl N5 5 ic5 (.int .u8 0) 1 1 Tryz.underlying22 hi5 hy0 hy1 hy2 rfl (by decide) _ _ _ rfl (o1.alloc _) ⟨wr.heap.size, 0, none⟩ 1 1 [.int .u8 ((p : Int) + 1)] rfl rfl ?c1 ?c2 ?c3 ?c4 ?c5 ?_)
              case c1 =>
                intro j u hj
                match j, hj with
                | 0, hj => simp at hj; subst hj; simp [Addr.add]
              case c2 => intro u hu; simp at hu; subst hu; rfl
              case c3 => unfold maxLen; omega
              case c4 => omega
              case c5 => simp; omega
              intro v' w8 hown' hgrow hblk hkeep
              have hown2 : w8.ownsRow N5 5 1 v' (m + k + 1) (List.replicate (m + k) (mkY p) ++ [mkY p]) := hown'
              rw [repY_snoc] at hown2
              have O8 := hide hown2
              have M8 := hide ((hm2.out.alloc _).grown hgrow (fun j hj e => by
                rcases hbl.out j e with h | h
                · omega
                · exact h))
              have R8 : Hid (RdY w8 xv m p) := (hrd.out.later (below_alloc wr _)).keep (k := m + k) hgrow (fun g j e hj => hkeep g j e (by omega)) (by omega)
              have BL8 : Hid (∀ j, v'.ownBlock = some j → wq.heap.size ≤ j ∨ xv.ownBlock = some j) := fun j e => by
                rcases hblk with h | h
                · exact hbl.out j (h ▸ e)
                · rw [e] at h
                  injection h with h
                  exact .inl (by omega)
              clear hown' hown2 hgrow hblk hkeep o1
              go_wp2_with fail
              exact ⟨⟨k + 1, by go_num, by omega, O8.out, M8.out, R8.out, BL8.out⟩, by simp [intOf]; omega⟩
            · obtain rfl : k = 70 := by omega
              have o1 := HW.out wr hm2.out
              obtain ⟨a7, c7, rfl⟩ := own_len ho.out
              obtain ⟨idl, kj, jz0, jz1, jz2⟩ := info_parts infoLB
              clear y0
              go_wp2_with (at_builtin; refine wpList_append_keep rfl _ _ 57 rfl Q5 22 idl (.slice none 0 0) 1 24 Tryz.underlying57 kj jz0 jz1 jz2 rfl (by decide) _ _ _ rfl (o1.alloc _) ⟨wr.heap.size, 0, none⟩ 1 1 [.slice a7 (m + 70) c7] rfl rfl ?c1 ?c2 ?c3 ?c4 ?c5 ?_)
              case c1 =>
                intro j u hj
                match j, hj with
                | 0, hj => simp at hj; subst hj; simp [Addr.add]
              case c2 => intro u hu; simp at hu; subst hu; rfl
              case c3 => unfold maxLen; omega
              case c4 => omega
              case c5 => simp; omega
              intro vl' w9 hown9 hgrow9 hblk9 hkeep9
              have m2 := (Mv.of_below (below_alloc wr (.cells #[.slice a7 (m + 70) c7] 22)) (fun j => (Value.slice (some ⟨gq, 0, none⟩) nn cq).ownBlock = some j)).grown hgrow9 (fun j _ e => e)
              obtain ⟨n1, n2, n3, n4⟩ := NXT.out wr w9 _ vl' hm2.out hrd.out ho.out hbl.out m2 hown9 (fun j e => by
                rcases hblk9 with h | h
                · exact .inr (h ▸ e)
                · rw [e] at h
                  injection h with h
                  exact .inl (by omega))
              have N1 := hide n1
              have N2 := hide n2
              have N3 := hide n3
              have N4 := hide n4
              clear hown9 hgrow9 hblk9 hkeep9 o1 m2 n1 n2 n3 n4
              go_wp2_with fail
              exact ⟨⟨p + 1, _, by go_num, by omega, N4.out, N1.out, N2.out, N3.out⟩, by simp [intOf]; omega⟩
        · obtain rfl : p = i := by omega
          have h3f : ¬ (p : Int) < 3 := by have := HN3.out; omega
          obtain ⟨nn, hnn⟩ : ∃ nn, nn = xs.length + ys.length := ⟨_, rfl⟩
          have ROW := hg.out.row
          rw [← hnn] at ROW
          obtain ⟨ah, ch, rfl⟩ := own_len ROW
          have hcq := own_cap ROW
          have hn2 : nn = p + p := by have := HN.out; have := hyl.out; omega
          have MV := hide hmv2.out
          have FW : Hid (∀ w', Below wr.heap.size wr w' → ∀ r, r < nn → ∃ gq u z, ah = some ⟨gq, 0, none⟩ ∧ w'.cell? ⟨gq, r, none⟩ = some u ∧ RdY w' u z (r % 3)) := fun w' hb r hr => by
            obtain ⟨gq, cq, e, hc⟩ := own_some ROW (by omega)
            injection e with e1 e2 e3
            have cc := fun (a : Addr) (x : Value) (h : wr.cell? a = some x) => (hb.cell (World.block_lt_of_cell? wr _ h)).trans h
            have hx1 := HN.out
            have hy1 := hyl.out
            have hl1 := LE.out
            by_cases hrp : r < p
            · have h1 : r < xs.length := by omega
              have h2 : r < lb.length := by omega
              refine ⟨gq, xs[r], lb[r].length, e1, cc _ _ ((hc r (by omega)).trans (by rw [List.getElem?_append_left h1]; exact List.getElem?_eq_getElem h1)), ?_⟩
              rw [Nat.mod_eq_of_lt (by have := HN3.out; omega)]
              exact (hg.out.old r h1 h2).later hb
            · have h1 : r - xs.length < ys.length := by omega
              have h2 : r - xs.length < lb.length := by omega
              refine ⟨gq, ys[r - xs.length], lb[r - xs.length].length + 70, e1, cc _ _ ((hc r (by omega)).trans (by rw [List.getElem?_append_right (by omega)]; exact List.getElem?_eq_getElem h1)), ?_⟩
              have h3 : r % 3 = r - xs.length := by have := HN3.out; omega
              rw [h3]
              exact (hg.out.new _ h1 h2).later hb
          clear ROW hnn hg hmv2 hbv GR0 MV0 hyl
          go_wp2_with fail
          go_loopw [46] (fun v9 wx => ∃ r : Nat, v9 = .int .i64 (r : Int) ∧ r ≤ nn ∧ Hid (Below wr.heap.size wr wx)) (fun v9 _ => nn - (intOf v9).toNat)
          case atStart => exact ⟨0, rfl, by omega, Below.refl _ _⟩
          case round =>
            obtain ⟨r, rfl, hr2, hb⟩ := hrel
            by_cases hlt3 : r < nn
            · obtain ⟨gq, u, z, rfl, cu, ru⟩ := FW.out wr hb.out r hlt3
              have RU := hide ru
              have CU : Hid (∀ w', Below wr.heap.size wr w' → w'.cell? ⟨gq, r, none⟩ = some u) := fun w' h => (h.cell (World.block_lt_of_cell? wr _ cu)).trans cu
              obtain ⟨au, cc, rfl, hn1, hn3, -⟩ := RU.out
              clear ru cu
              have i1 : (r : Int) < (nn : Int) := by omega
              have hmod : Int.tmod (r : Int) 3 = ((r % 3 : Nat) : Int) := rfl
              go_wp2_with fail
              go_loopw [47] (fun v10 wy => ∃ k : Nat, v10 = .int .i64 (k : Int) ∧ k ≤ z ∧ Hid (Below wr.heap.size wr wy)) (fun v10 _ => z - (intOf v10).toNat)
              case atStart => exact ⟨0, rfl, by omega, Below.refl _ _⟩
              case round =>
                obtain ⟨k, rfl, hk, hb2⟩ := hrel
                have cu := CU.out wr hb2.out
                by_cases hk2 : k < z
                · obtain ⟨g, c2, e, d0⟩ := (RU.out.later hb2.out).at hk2
                  injection e with e1 e2 e3
                  subst e1 e3
                  clear e2
                  unfold mkY at d0
                  have k1 : (k : Int) < (z : Int) := by omega
                  have hq9 : (r % 3 : Nat) ≤ 2 := by omega
                  have hq8 : (((r % 3 : Nat) : Int) + 1) % 256 = ((r % 3 : Nat) : Int) + 1 := by omega
                  obtain ⟨rm, hrm⟩ : ∃ x, x = r % 3 := ⟨_, rfl⟩
                  rw [← hrm] at d0 hmod hq8 hq9
                  clear hrm
                  have B3 := hide hb2.out
                  go_wp2_with fail
                  exact ⟨⟨k + 1, by go_num, by omega, B3.out⟩, by simp [intOf]; omega⟩
                · obtain rfl : k = z := by omega
                  have B3 := hide (below_on hb.out hb2.out)
                  go_wp2_with fail
                  exact ⟨⟨r + 1, by go_num, by omega, B3.out⟩, by simp [intOf]; omega⟩
            · obtain rfl : r = nn := by omega
              have FIN := hide (MV.out.later hb.out)
              go_wp2_with fail
              go_ret
              exact ⟨rfl, FWD.out wr FIN.out⟩
end Go.Proofs.YtpolajoephjdhaaGreatDoor
