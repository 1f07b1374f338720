import Derived.Test.YtmfoehaeejhlpaaGreatDoorGaBN
/-
  A program in pieces; it is read as it is written.
-/
namespace Go.Proofs.YtmfoehaeejhlpaaGreatDoor.Yn
set_option maxRecDepth 100000
def pN (x : Tree) : List Y := [wd (txn x)]
def pCl : Tree → List Y | .mk _ t _ l _ => if l.length = 0 then [] else [bl, wd t, bl] ++ comP (l.map pN)
def pMb (f : Nat) : Tree → List Y
  | .mk op t _ l _ => if op = 2 then [wd wSystem, bl, wd t] ++ ((l.take 4).map pCl).flatten ++ pBk f (l.getD 4 tn) 0 ++ [nl] else [wd wFunc, bl, wd t, sg cOpen] ++ comP ((lsn (l.getD 0 tn)).map pN) ++ [sg cClose] ++ pBk f (l.getD 1 tn) 0 ++ [nl]
def pPg (f : Nat) (l : List Tree) : List Y := (l.map (pMb f)).flatten
theorem names_at {ws : List ByteArray} : ∀ (n most sum : Nat) (acc : List Tree) (x : Tree) (r : List Tree) (s : S) (rest : List Y) (st sy fu de : Nat), Nn ws x → (∀ y ∈ r, Nn ws y) → sum + 1 + r.length ≤ most → At s (wd (txn x) :: (tks (comR (r.map pN)) ++ rest)) st sy fu de → hdT rest ≠ cCom → Rr (fun m => ers m = ers acc ++ ers (x :: r)) rest st sy fu de (Yn.names ws n most sum acc s)
  | 0, most, sum, acc, x, r, s, rest, st, sy, fu, de, _, _, _, _, _ => by rw [Yn.names]; exact .inl rfl
  | n + 1, most, sum, acc, x, r, s, rest, st, sy, fu, de, hx, hr, hm, h, hc => by
    obtain ⟨t, a, rfl, ht⟩ := hx
    have h' : At s (wd t :: (tks (comR (r.map pN)) ++ rest)) st sy fu de := h
    rw [Yn.names]
    unfold needName
    rw [isName_at ht.2 h', if_pos rfl]
    show Rr _ _ _ _ _ _ (if sum = most then _ else _)
    rw [if_neg (by omega)]
    refine Rr.bind (nameNode_at ht.2 h') fun u s1 hu hs1 => ?_
    obtain ⟨b, rfl⟩ := hu
    have e0 : er (.mk 31 t 0 [] b) = er (.mk 31 t 0 [] a) := by simp only [er_mk]
    cases r with
    | nil =>
      have hs1' : At s1 rest st sy fu de := hs1
      rw [isAt_at hs1' hc, if_neg (by decide)]
      exact Rr.ok (by rw [ers_app, ers_one, ers_one, e0]) hs1'
    | cons y r =>
      have e1 : tks (comR ((y :: r).map pN)) ++ rest = sg cCom :: (wd (txn y) :: (tks (comR (r.map pN)) ++ rest)) := by
        simp only [List.map_cons, comR, pN, tks_bl, tks_sg, tks_wd, List.cons_append, List.nil_append]
      rw [e1] at hs1
      rw [isAt_sg hs1, if_pos rfl]
      rw [List.length_cons] at hm
      have := names_at n most (sum + 1) (acc ++ [.mk 31 t 0 [] b]) y r (nx s1) rest st sy fu de (hr y (List.mem_cons_self ..)) (fun z hz => hr z (List.mem_cons_of_mem _ hz)) (by omega) hs1.cons.2.2 hc
      have e3 : ers (acc ++ [.mk 31 t 0 [] b]) ++ ers (y :: r) = ers acc ++ ers (.mk 31 t 0 [] a :: y :: r) := by
        rw [ers_app, ers_one, e0, ers, ers, List.append_assoc]
        rfl
      rw [e3] at this
      exact this
theorem cl_hd {ws : List ByteArray} {w : ByteArray} {c : Tree} (h : OkC ws w c) (rest : List Y) : hdT (tks (pCl c) ++ rest) = w ∨ hdT (tks (pCl c) ++ rest) = hdT rest := by
  obtain ⟨l, a, rfl, -⟩ := h
  rw [pCl]
  split
  · exact .inr rfl
  · exact .inl rfl
theorem clause_at {ws : List ByteArray} {n : Nat} {w : ByteArray} {c : Tree} {s : S} {rest : List Y} {st sy fu de : Nat} (hc : OkC ws w c) (hz : sz c ≤ 9223372036854775807) (h : At s (tks (pCl c) ++ rest) st sy fu de) (h1 : hdT rest ≠ w) (h2 : hdT rest ≠ cCom) : Rr (fun u => ∀ a, er (placed a u) = er c) rest st sy fu de (clauseS ws n w s) := by
  obtain ⟨l, a, rfl, hl⟩ := hc
  unfold clauseS
  cases l with
  | nil =>
    have h' : At s rest st sy fu de := h
    rw [isAt_at h' h1, if_neg (by decide)]
    exact Rr.ok (fun a => by simp only [placed, er_mk]) h'
  | cons x r =>
    have e1 : tks (pCl (.mk 3 w 0 (x :: r) a)) ++ rest = wd w :: (wd (txn x) :: (tks (comR (r.map pN)) ++ rest)) := by
      rw [pCl, if_neg (by simp)]
      simp only [List.map_cons, comP, pN, tks_bl, tks_wd, List.cons_append, List.nil_append]
    rw [e1] at h
    rw [isAt_wd h, if_pos rfl]
    have hln : ∀ l : List Tree, l.length ≤ szs l := by
      intro l
      induction l with
      | nil => exact Nat.zero_le _
      | cons t ts ih =>
        obtain ⟨op, u, n, l, b⟩ := t
        rw [szs, sz_mk, List.length_cons]
        omega
    have hlr := hln r
    rw [sz_mk, szs] at hz
    refine Rr.bind (names_at n _ 0 [] x r (nx s) rest st sy fu de (hl x (List.mem_cons_self ..)) (fun y hy => hl y (List.mem_cons_of_mem _ hy)) (by omega) h.cons.2.2 h2) fun m s1 hm hs1 => ?_
    refine Rr.ok (fun b => ?_) hs1
    have hm' : ers m = ers (x :: r) := hm
    simp only [placed, er_mk, hm']
theorem At.upY {s : S} {l : List Y} {st sy fu de : Nat} (h : At s l st sy fu de) : At (Yn.upY s) l st (sy + 1) fu de := ⟨h.ys, h.st, by have := h.sy; show s.sy + 1 = sy + 1; omega, h.fu, h.de⟩
theorem At.upF {s : S} {l : List Y} {st sy fu de : Nat} (h : At s l st sy fu de) : At (Yn.upF s) l st sy (fu + 1) de := ⟨h.ys, h.st, h.sy, by have := h.fu; show s.fu + 1 = fu + 1; omega, h.de⟩
theorem system_at {ws : List ByteArray} (hw : Wsok ws) {n f : Nat} {t : ByteArray} {c0 c1 c2 c3 b : Tree} {a : Nat} {s : S} {rest : List Y} {st sy fu : Nat} (h1 : Nm ws t) (o0 : OkC ws (bs [119, 105, 116, 104]) c0) (o1 : OkC ws (bs [119, 105, 116, 104, 111, 117, 116]) c1) (o2 : OkC ws (bs [114, 101, 97, 100, 115]) c2) (o3 : OkC ws (bs [119, 114, 105, 116, 101, 115]) c3) (hb : OkS ws 20 b) (hb5 : opn b = 5) (hf : 2 * sz (.mk 2 t 0 [c0, c1, c2, c3, b] a) ≤ f) (hz : sz (.mk 2 t 0 [c0, c1, c2, c3, b] a) ≤ 9223372036854775807) (h : At s (tks (pMb f (.mk 2 t 0 [c0, c1, c2, c3, b] a)) ++ rest) st sy fu 0) (h200 : st + cnt b ≤ 200) (h16 : sy + 1 ≤ 16) : Rr (Se (.mk 2 t 0 [c0, c1, c2, c3, b] a)) rest (st + cnt b) (sy + 1) fu 0 (memberS ws n s) := by
  have e1 : tks (pMb f (.mk 2 t 0 [c0, c1, c2, c3, b] a)) ++ rest = wd wSystem :: wd t :: (tks (pCl c0) ++ (tks (pCl c1) ++ (tks (pCl c2) ++ (tks (pCl c3) ++ (tks (pBk f b 0) ++ rest))))) := by
    rw [pMb, if_pos rfl]
    show tks ([wd wSystem, bl, wd t] ++ ([pCl c0, pCl c1, pCl c2, pCl c3].flatten) ++ pBk f b 0 ++ [nl]) ++ rest = _
    simp only [List.flatten_cons, List.flatten_nil, List.append_nil, tks_app, tks_bl, tks_wd, tks_nl, tks_nil, List.append_assoc, List.cons_append, List.nil_append]
  rw [e1] at h
  simp only [sz_mk, szs] at hf hz
  obtain ⟨q, eq⟩ := pBk_hd (k := 0) (f := f) hb hb5 (by omega) rest
  rw [eq] at h
  have m3 : hdT (tks (pCl c3) ++ sg cLb :: q) = bs [119, 114, 105, 116, 101, 115] ∨ hdT (tks (pCl c3) ++ sg cLb :: q) = cLb := cl_hd o3 _
  have m2 := cl_hd o2 (tks (pCl c3) ++ sg cLb :: q)
  have m1 := cl_hd o1 (tks (pCl c2) ++ (tks (pCl c3) ++ sg cLb :: q))
  have n2 : hdT (tks (pCl c2) ++ (tks (pCl c3) ++ sg cLb :: q)) = bs [114, 101, 97, 100, 115] ∨ hdT (tks (pCl c2) ++ (tks (pCl c3) ++ sg cLb :: q)) = bs [119, 114, 105, 116, 101, 115] ∨ hdT (tks (pCl c2) ++ (tks (pCl c3) ++ sg cLb :: q)) = cLb := by
    rcases m2 with e | e
    · exact .inl e
    · rw [e]; exact .inr m3
  have n1 : hdT (tks (pCl c1) ++ (tks (pCl c2) ++ (tks (pCl c3) ++ sg cLb :: q))) = bs [119, 105, 116, 104, 111, 117, 116] ∨ hdT (tks (pCl c1) ++ (tks (pCl c2) ++ (tks (pCl c3) ++ sg cLb :: q))) = bs [114, 101, 97, 100, 115] ∨ hdT (tks (pCl c1) ++ (tks (pCl c2) ++ (tks (pCl c3) ++ sg cLb :: q))) = bs [119, 114, 105, 116, 101, 115] ∨ hdT (tks (pCl c1) ++ (tks (pCl c2) ++ (tks (pCl c3) ++ sg cLb :: q))) = cLb := by
    rcases m1 with e | e
    · exact .inl e
    · rw [e]; exact .inr n2
  unfold memberS
  rw [isAt_wd h, if_pos rfl]
  unfold systemS
  rw [if_neg (by have := h.sy; omega)]
  refine Rr.bind (take_at rfl h.upY) fun _ s1 _ hs1 => ?_
  refine Rr.bind (name_at h1.2 hs1) fun v s2 hv hs2 => ?_
  refine Rr.bind (P := fun m => ∃ d0 d1 d2 d3, m = [d0, d1, d2, d3] ∧ ∀ a, er (placed a d0) = er c0 ∧ er (placed a d1) = er c1 ∧ er (placed a d2) = er c2 ∧ er (placed a d3) = er c3) (l := sg cLb :: q) (st := st) (sy := sy + 1) (fu := fu) (de := 0) ?_ fun m s3 hm hs3 => ?_
  · unfold clauseWords
    rw [clausesS]
    refine Rr.bind (clause_at o0 (by omega) hs2 (by rcases n1 with e | e | e | e <;> rw [e] <;> decide) (by rcases n1 with e | e | e | e <;> rw [e] <;> decide)) fun d0 p0 g0 hp0 => ?_
    rw [clausesS]
    refine Rr.bind (clause_at o1 (by omega) hp0 (by rcases n2 with e | e | e <;> rw [e] <;> decide) (by rcases n2 with e | e | e <;> rw [e] <;> decide)) fun d1 p1 g1 hp1 => ?_
    rw [clausesS]
    refine Rr.bind (clause_at o2 (by omega) hp1 (by rcases m3 with e | e <;> rw [e] <;> decide) (by rcases m3 with e | e <;> rw [e] <;> decide)) fun d2 p2 g2 hp2 => ?_
    rw [clausesS]
    refine Rr.bind (clause_at o3 (by omega) hp2 (show cLb ≠ _ by decide) (show cLb ≠ cCom by decide)) fun d3 p3 g3 hp3 => ?_
    rw [clausesS]
    exact Rr.ok ⟨d0, d1, d2, d3, rfl, fun a => ⟨g0 a, g1 a, g2 a, g3 a⟩⟩ hp3
  · rw [← eq] at hs3
    refine Rr.bind ((allC hw n).block 20 b f 0 s3 rest st (sy + 1) fu 0 hb hb5 (by omega) (by omega) hs3 h200) fun y s4 hy hs4 => ?_
    obtain ⟨d0, d1, d2, d3, rfl, hd⟩ := hm
    refine Rr.ok ?_ hs4
    obtain ⟨z0, z1, z2, z3⟩ := hd y.at
    unfold Se at hy ⊢
    simp only [List.map_cons, List.map_nil, List.cons_append, List.nil_append, er_mk, ers, z0, z1, z2, z3, hy, hv]
theorem func_at {ws : List ByteArray} (hw : Wsok ws) {n f : Nat} {t : ByteArray} {l : List Tree} {b : Tree} {a a1 : Nat} {s : S} {rest : List Y} {st sy fu : Nat} (h1 : Nm ws t) (hl : ∀ x ∈ l, Nn ws x) (hl4 : l.length ≤ 4) (hb : OkS ws 20 b) (hb5 : opn b = 5) (hf : 2 * sz (.mk 4 t 0 [.mk 3 wFunc 0 l a1, b] a) ≤ f) (h : At s (tks (pMb f (.mk 4 t 0 [.mk 3 wFunc 0 l a1, b] a)) ++ rest) st sy fu 0) (h200 : st + cnt b ≤ 200) (h16 : fu + 1 ≤ 16) : Rr (Se (.mk 4 t 0 [.mk 3 wFunc 0 l a1, b] a)) rest (st + cnt b) sy (fu + 1) 0 (memberS ws n s) := by
  have e1 : tks (pMb f (.mk 4 t 0 [.mk 3 wFunc 0 l a1, b] a)) ++ rest = wd wFunc :: wd t :: sg cOpen :: (tks (comP (l.map pN)) ++ sg cClose :: (tks (pBk f b 0) ++ rest)) := by
    rw [pMb, if_neg (by decide)]
    show tks ([wd wFunc, bl, wd t, sg cOpen] ++ comP (l.map pN) ++ [sg cClose] ++ pBk f b 0 ++ [nl]) ++ rest = _
    simp only [tks_app, tks_bl, tks_wd, tks_sg, tks_nl, tks_nil, List.append_nil, List.append_assoc, List.cons_append, List.nil_append]
  rw [e1] at h
  simp only [sz_mk, szs] at hf
  unfold memberS
  rw [isAt_at h (show wFunc ≠ wSystem by decide), if_neg (by decide)]
  unfold funcS
  rw [isAt_wd h, if_pos rfl, if_neg (by have := h.fu; omega)]
  refine Rr.bind (take_at rfl h.upF) fun _ s1 _ hs1 => ?_
  refine Rr.bind (name_at h1.2 hs1) fun v s2 hv hs2 => ?_
  refine Rr.bind (P := fun p => er p = er (.mk 3 wFunc 0 l a1)) (l := tks (pBk f b 0) ++ rest) (st := st) (sy := sy) (fu := fu + 1) (de := 0) ?_ fun p s3 hp hs3 => ?_
  · unfold paramS
    refine Rr.bind (take_at rfl hs2) fun _ s3 _ hs3 => ?_
    cases l with
    | nil =>
      have hs3' : At s3 (sg cClose :: (tks (pBk f b 0) ++ rest)) st sy (fu + 1) 0 := hs3
      rw [isAt_sg hs3', if_pos rfl]
      refine Rr.bind (take_at rfl hs3') fun _ s4 _ hs4 => ?_
      exact Rr.ok (by simp only [er_mk]) hs4
    | cons x r =>
      have e2 : tks (comP ((x :: r).map pN)) ++ sg cClose :: (tks (pBk f b 0) ++ rest) = wd (txn x) :: (tks (comR (r.map pN)) ++ sg cClose :: (tks (pBk f b 0) ++ rest)) := by
        simp only [List.map_cons, comP, pN, tks_wd, List.cons_append, List.nil_append]
      rw [e2] at hs3
      obtain ⟨u, c, hx, hu⟩ := hl x (List.mem_cons_self ..)
      have hne : txn x ≠ cClose := by
        rw [hx]
        exact wrd_ne hu.1 41 (by decide)
      rw [isAt_at hs3 hne, if_neg (by decide)]
      rw [List.length_cons] at hl4
      refine Rr.bind (names_at n 4 0 [] x r s3 _ st sy (fu + 1) 0 ⟨u, c, hx, hu⟩ (fun y hy => hl y (List.mem_cons_of_mem _ hy)) (by omega) hs3 (show cClose ≠ cCom by decide)) fun m s4 hm hs4 => ?_
      refine Rr.bind (take_at rfl hs4) fun _ s5 _ hs5 => ?_
      refine Rr.ok ?_ hs5
      have hm' : ers m = ers (x :: r) := hm
      simp only [er_mk, hm']
  · refine Rr.bind ((allC hw n).block 20 b f 0 s3 rest st sy (fu + 1) 0 hb hb5 (by omega) (by omega) hs3 h200) fun y s4 hy hs4 => ?_
    refine Rr.ok ?_ hs4
    rw [er_mk] at hp
    unfold Se at hy ⊢
    simp only [List.nil_append, er_mk, ers, hp, hy, hv]
theorem cY_cons (x : Tree) (l : List Tree) : cY (x :: l) = (if opn x = 2 then 1 else 0) + cY l := by
  unfold cY
  rw [List.filter_cons]
  by_cases e : opn x = 2
  · simp [e]; omega
  · simp [e]
theorem cF_cons (x : Tree) (l : List Tree) : cF (x :: l) = (if opn x = 4 then 1 else 0) + cF l := by
  unfold cF
  rw [List.filter_cons]
  by_cases e : opn x = 4
  · simp [e]; omega
  · simp [e]
theorem prog_at {ws : List ByteArray} (hw : Wsok ws) : ∀ (n f : Nat) (acc l : List Tree) (s : S) (st sy fu : Nat), (∀ x ∈ l, OkM ws x) → 2 * szs l ≤ f → szs l ≤ 9223372036854775807 → At s (tks (pPg f l) ++ [(0, bs [])]) st sy fu 0 → st + cnts l ≤ 200 → sy + cY l ≤ 16 → fu + cF l ≤ 16 → Rr (fun t => ∃ m, t = .mk 1 (bs []) 0 m 0 ∧ ers m = ers acc ++ ers l) [(0, bs [])] (st + cnts l) (sy + cY l) (fu + cF l) 0 (progS ws n acc s)
  | 0, f, acc, l, s, st, sy, fu, _, _, _, _, _, _, _ => by rw [progS]; exact .inl rfl
  | n + 1, f, acc, l, s, st, sy, fu, hl, hf, hz, h, h200, hy16, hf16 => by
    rw [progS]
    cases l with
    | nil =>
      have h' : At s [(0, bs [])] st sy fu 0 := h
      rw [if_pos h'.cons.1]
      exact Rr.ok ⟨acc, rfl, by rw [ers, List.append_nil]⟩ h'
    | cons x r =>
      have e1 : tks (pPg f (x :: r)) ++ [(0, bs [])] = tks (pMb f x) ++ (tks (pPg f r) ++ [(0, bs [])]) := by
        unfold pPg
        rw [List.map_cons, List.flatten_cons, tks_app, List.append_assoc]
      rw [e1] at h
      rw [szs] at hf hz
      rw [cnts] at h200 ⊢
      rw [cY_cons] at hy16 ⊢
      rw [cF_cons] at hf16 ⊢
      have hx := hl x (List.mem_cons_self ..)
      have key : (hd s).k ≠ 0 ∧ Rr (Se x) (tks (pPg f r) ++ [(0, bs [])]) (st + cnt x) (sy + (if opn x = 2 then 1 else 0)) (fu + (if opn x = 4 then 1 else 0)) 0 (memberS ws n s) := by
        cases hx with
        | @sys t c0 c1 c2 c3 b a h1 o0 o1 o2 o3 h2 h3 =>
          have ec : cnt (.mk 2 t 0 [c0, c1, c2, c3, b] a) = cnt b := by
            simp only [cnt_mk, cnts, cnt_c o0, cnt_c o1, cnt_c o2, cnt_c o3]
            rw [if_neg (by omega)]
            omega
          rw [ec] at h200 ⊢
          have h16 : sy + 1 ≤ 16 := by
            have : (if opn (.mk 2 t 0 [c0, c1, c2, c3, b] a) = 2 then 1 else 0) = 1 := if_pos rfl
            omega
          refine ⟨?_, system_at hw h1 o0 o1 o2 o3 h2 h3 (by omega) (by omega) h (by omega) h16⟩
          have h' := h
          rw [pMb, if_pos rfl] at h'
          have h'' : At s (wd wSystem :: _) st sy fu 0 := h'
          rw [h''.cons.1]
          decide
        | @fn t l b a a1 h1 h2 h3 h4 h5 =>
          have ec : cnt (.mk 4 t 0 [.mk 3 wFunc 0 l a1, b] a) = cnt b := by
            simp only [cnt_mk, cnts, cnts_zero fun x hx => cnt_n (h2 x hx)]
            rw [if_neg (by omega), if_neg (by omega)]
            omega
          rw [ec] at h200 ⊢
          have h16 : fu + 1 ≤ 16 := by
            have : (if opn (.mk 4 t 0 [.mk 3 wFunc 0 l a1, b] a) = 4 then 1 else 0) = 1 := if_pos rfl
            omega
          refine ⟨?_, func_at hw h1 h2 h3 h4 h5 (by omega) h (by omega) h16⟩
          have h' := h
          rw [pMb, if_neg (by decide)] at h'
          have h'' : At s (wd wFunc :: _) st sy fu 0 := h'
          rw [h''.cons.1]
          decide
      rw [if_neg key.1]
      refine Rr.bind key.2 fun u s1 hu hs1 => ?_
      have := prog_at hw n f (acc ++ [u]) r s1 (st + cnt x) (sy + (if opn x = 2 then 1 else 0)) (fu + (if opn x = 4 then 1 else 0)) (fun y hy => hl y (List.mem_cons_of_mem _ hy)) (by omega) (by omega) hs1 (by omega) (by omega) (by omega)
      have e3 : ers (acc ++ [u]) ++ ers r = ers acc ++ ers (x :: r) := by
        unfold Se at hu
        rw [ers_app, ers_one, hu, ers, List.append_assoc]
        rfl
      rw [e3, Nat.add_assoc, Nat.add_assoc, Nat.add_assoc] at this
      exact this
end Go.Proofs.YtmfoehaeejhlpaaGreatDoor.Yn

/-
  What is written, cut into tokens again.
-/
namespace Go.Proofs.YtmfoehaeejhlpaaGreatDoor.Yn
open Le
set_option maxRecDepth 100000
def bys (l : List Y) : List UInt8 := l.flatMap fun y => y.2.data.toList
theorem bys_app (l m : List Y) : bys (l ++ m) = bys l ++ bys m := List.flatMap_append ..
theorem bys_cons (y : Y) (l : List Y) : bys (y :: l) = y.2.data.toList ++ bys l := List.flatMap_cons ..
theorem bys_nil : bys [] = [] := rfl
def Sits (f : Nat → Nat) (p : Nat) (l : List UInt8) : Prop := ∀ i (h : i < l.length), f (p + i) = l[i].toNat
theorem Sits.left {f : Nat → Nat} {p : Nat} {l m : List UInt8} (h : Sits f p (l ++ m)) : Sits f p l := fun i hi => by
  have := h i (by rw [List.length_append]; omega)
  rw [this, List.getElem_append_left hi]
theorem Sits.right {f : Nat → Nat} {p : Nat} {l m : List UInt8} (h : Sits f p (l ++ m)) : Sits f (p + l.length) m := fun i hi => by
  have := h (l.length + i) (by rw [List.length_append]; omega)
  rw [Nat.add_assoc, this, List.getElem_append_right (by omega)]
  congr 2
  omega
def tkP : Nat → List Y → List Tk
  | _, [] => []
  | p, y :: r => (if y.1 = 0 then [] else [⟨y.1, p, p + y.2.data.toList.length⟩]) ++ tkP (p + y.2.data.toList.length) r
theorem tkP_app : ∀ (l m : List Y) (p : Nat), tkP p (l ++ m) = tkP p l ++ tkP (p + (bys l).length) m
  | [], m, p => by rw [List.nil_append, tkP, bys_nil]; rfl
  | y :: r, m, p => by
    rw [List.cons_append, tkP, tkP, tkP_app r m, bys_cons, List.length_append, List.append_assoc, Nat.add_assoc]
/-- Pieces are cut as they are, if what follows is so. -/
def Lx (c : Nat → Prop) (P : List Y) : Prop := ∀ f n p, Fz f n → Sits f p (bys P) → p + (bys P).length ≤ n → c (f (p + (bys P).length)) → lexA f n p = Rs.pre (tkP p P) (lexA f n (p + (bys P).length))
def St (c : Nat → Prop) (P : List Y) : Prop := ∃ x r, bys P = x :: r ∧ c x.toNat
def nwo (d : Nat) : Prop := isWo d = false
def any (_ : Nat) : Prop := True
theorem St.app {c : Nat → Prop} {A : List Y} (h : St c A) (B : List Y) : St c (A ++ B) := by
  obtain ⟨x, r, e, hc⟩ := h
  exact ⟨x, r ++ bys B, by rw [bys_app, e]; rfl, hc⟩
theorem St.mono {c c' : Nat → Prop} {A : List Y} (h : St c A) (hc : ∀ d, c d → c' d) : St c' A := by
  obtain ⟨x, r, e, h⟩ := h
  exact ⟨x, r, e, hc _ h⟩
theorem pre_pre (a b : List Tk) (r : Rs) : Rs.pre a (Rs.pre b r) = Rs.pre (a ++ b) r := by
  cases r with
  | ok l => simp [Rs.pre]
  | no a => rfl
theorem Lx.nil : Lx any [] := fun f n p _ _ _ _ => by
  rw [tkP, bys_nil]
  show lexA f n p = Rs.pre [] (lexA f n p)
  cases lexA f n p <;> rfl
theorem Lx.app {c c' : Nat → Prop} {A B : List Y} (hA : Lx c A) (hB : Lx c' B) (h : St c B) : Lx c' (A ++ B) := by
  intro f n p hz hs hp hc
  rw [bys_app] at hs hp hc ⊢
  rw [List.length_append] at hp hc ⊢
  obtain ⟨x, r, e, hx⟩ := h
  have e1 := hA f n p hz hs.left (by omega) (by
    have := hs.right 0 (by rw [e]; simp)
    rw [Nat.add_zero] at this
    rw [this]
    simp only [e, List.getElem_cons_zero]
    exact hx)
  have e2 := hB f n (p + (bys A).length) hz hs.right (by omega) (by rw [Nat.add_assoc]; exact hc)
  rw [e1, e2, pre_pre, tkP_app, Nat.add_assoc]
theorem Lx.appT {c' : Nat → Prop} {A B : List Y} (hA : Lx any A) (hB : Lx c' B) : Lx c' (A ++ B) := by
  intro f n p hz hs hp hc
  rw [bys_app] at hs hp hc ⊢
  rw [List.length_append] at hp hc ⊢
  have e1 := hA f n p hz hs.left (by omega) trivial
  have e2 := hB f n (p + (bys A).length) hz hs.right (by omega) (by rw [Nat.add_assoc]; exact hc)
  rw [e1, e2, pre_pre, tkP_app, Nat.add_assoc]
theorem Lx.mono {c c' : Nat → Prop} {A : List Y} (h : Lx c A) (hc : ∀ d, c' d → c d) : Lx c' A := fun f n p hz hs hp h' => h f n p hz hs hp (hc _ h')
theorem Lx.weak {c : Nat → Prop} {A : List Y} (h : Lx any A) : Lx c A := h.mono fun _ _ => trivial
theorem Lx.c {c' : Nat → Prop} {y : Y} {B : List Y} (hA : Lx any [y]) (hB : Lx c' B) : Lx c' (y :: B) := Lx.appT hA hB
theorem Lx.w {c' : Nat → Prop} {y : Y} {B : List Y} (hA : Lx nwo [y]) (h : St nwo B) (hB : Lx c' B) : Lx c' (y :: B) := Lx.app hA hB h
/-- One token. -/
theorem lx_tok {c : Nat → Prop} {k : Nat} {t : ByteArray} (hk : k ≠ 0) (h0 : 0 < t.data.toList.length) (h : ∀ f n p, Fz f n → Sits f p t.data.toList → p + t.data.toList.length ≤ n → c (f (p + t.data.toList.length)) → stepL f n p = .tok k p (p + t.data.toList.length)) : Lx c [(k, t)] := by
  intro f n p hz hs hp hc
  have eb : bys [(k, t)] = t.data.toList := by rw [bys_cons, bys_nil, List.append_nil]
  rw [eb] at hs hp hc ⊢
  rw [lexA_tok hz (by omega) (h f n p hz hs hp hc), tkP, tkP, if_neg hk, List.append_nil]
  show Rs.cons ⟨k, p, p + t.data.toList.length⟩ (lexA f n (p + t.data.toList.length)) = _
  cases lexA f n (p + t.data.toList.length) <;> rfl
theorem lx_blank (l : List UInt8) (h : ∀ c ∈ l, isBl c.toNat = true) : Lx any [(0, bs l)] := by
  have key : ∀ (l : List UInt8), (∀ c ∈ l, isBl c.toNat = true) → ∀ f n p, Fz f n → Sits f p l → p + l.length ≤ n → lexA f n p = lexA f n (p + l.length) := by
    intro l
    induction l with
    | nil => intro _ f n p _ _ _; rfl
    | cons c r ih =>
      intro h f n p hz hs hp
      have h0 : f p = c.toNat := by
        have := hs 0 (by simp)
        rw [Nat.add_zero] at this
        exact this
      rw [List.length_cons] at hp ⊢
      have := (lexA_blank hz (p := p) (by rw [h0]; exact h c (List.mem_cons_self ..))).2
      have hs' : Sits f p ([c] ++ r) := hs
      rw [this, ih (fun x hx => h x (List.mem_cons_of_mem _ hx)) f n (p + 1) hz hs'.right (by omega)]
      congr 1
      omega
  intro f n p hz hs hp _
  have eb : bys [((0 : Nat), bs l)] = l := by rw [bys_cons, bys_nil, List.append_nil]; rfl
  rw [eb] at hs hp ⊢
  rw [key l h f n p hz hs hp, tkP, tkP, if_pos rfl, List.append_nil]
  cases lexA f n (p + l.length) <;> rfl
theorem lx_bl : Lx any [bl] := lx_blank [32] (by decide)
theorem lx_nl : Lx any [nl] := lx_blank [10] (by decide)
theorem lx_tab (k : Nat) : Lx any [tab k] := lx_blank _ (fun c hc => by rw [(List.mem_replicate.1 hc).2]; rfl)
theorem stl_of {f : Nat → Nat} {a : Nat} (h1 : isBl (f a) = false) (h2 : f a ≠ 47) : Stl f a := ⟨h1, fun h => h2 h.1, fun h => h2 h.1⟩
theorem bl_wo {d : Nat} (h : isWo d = true) : isBl d = false ∧ d ≠ 47 := by
  constructor
  · cases hb : isBl d with
    | false => rfl
    | true =>
      simp only [isBl, Bool.or_eq_true, beq_iff_eq] at hb
      rcases hb with ((rfl | rfl) | rfl) | rfl <;> exact absurd h (by decide)
  · rintro rfl
    exact absurd h (by decide)
theorem lx_wd {t : ByteArray} (h : Wrd t) : Lx nwo [wd t] := by
  obtain ⟨⟨c, r, e, hc⟩, hall, hlen⟩ := h
  have hl : t.data.toList.length = t.size := rfl
  refine lx_tok (by decide) (by rw [e]; simp) fun f n p hz hs hp hd => ?_
  have h0 : f p = c.toNat := by
    have := hs 0 (by rw [e]; simp)
    rw [Nat.add_zero] at this
    rw [this]
    simp only [e, List.getElem_cons_zero]
  have hpos : 0 < t.data.toList.length := by rw [e]; simp
  have hw : isWo (f p) = true := by rw [h0]; exact isLe_wo hc
  rw [stepL_stl (by omega) (stl_of (bl_wo hw).1 (bl_wo hw).2)]
  have hr : runE (fun j => isWo (f j)) (n - p) p = p + t.data.toList.length := by
    refine runE_is _ _ _ _ (by omega) (fun j h1 h2 => ?_) (.inl ⟨hd, by omega⟩)
    have := hs (j - p) (by omega)
    rw [show p + (j - p) = j by omega] at this
    show isWo (f j) = true
    rw [this]
    exact hall _ (List.getElem_mem _)
  unfold tokAt
  rw [hr, if_pos (by rw [h0]; exact hc), if_neg (by omega)]
theorem dig_val (f : Nat → Nat) : ∀ (l : List UInt8) (p acc : Nat), (∀ c ∈ l, 48 ≤ c.toNat ∧ c.toNat ≤ 57) → Sits f p l → (numV f acc l.length p : Int) = l.foldl (fun (a : Int) c => a * 10 + ((c.toNat : Int) - 48)) (acc : Int)
  | [], p, acc, _, _ => by rw [List.length_nil, numV_zero]; rfl
  | c :: r, p, acc, hc, hs => by
    have h0 : f p = c.toNat := by
      have := hs 0 (by simp)
      rw [Nat.add_zero] at this
      exact this
    have hs' : Sits f p ([c] ++ r) := hs
    have := hc c (List.mem_cons_self ..)
    rw [List.length_cons, numV_succ, List.foldl_cons, dig_val f r (p + 1) _ (fun x hx => hc x (List.mem_cons_of_mem _ hx)) hs'.right, h0]
    congr 1
    omega
theorem lx_num {v : Int} (h0 : 0 ≤ v) (h1 : v ≤ 9223372036854775807) : Lx nwo [(2, itB v)] := by
  have hdig := dec_dig _ _ (Nat.le_refl v.toNat)
  have hval := dec_val _ _ (Nat.le_refl v.toNat)
  obtain ⟨c, r, e, hfst⟩ := dec_first _ _ (Nat.le_refl v.toNat)
  have ei := it_eq h0
  refine lx_tok (by decide) (by rw [ei, e]; simp) fun f n p hz hs hp hd => ?_
  rw [ei] at hs hp hd ⊢
  have hpos : 0 < (Lib.decDigits v.toNat).length := by rw [e]; simp
  have g0 : f p = c.toNat := by
    have := hs 0 hpos
    rw [Nat.add_zero] at this
    rw [this]
    simp only [e, List.getElem_cons_zero]
  have gc := hdig c (by rw [e]; exact List.mem_cons_self ..)
  have hdi : isDi (f p) = true := by rw [g0]; simp [isDi, gc.1, gc.2]
  have hle : ¬ isLe (f p) = true := by rw [g0]; simp [isLe]; omega
  have hw := isDi_wo hdi
  rw [stepL_stl (by omega) (stl_of (bl_wo hw).1 (bl_wo hw).2)]
  have hr : runE (fun j => isDi (f j)) (n - p) p = p + (Lib.decDigits v.toNat).length := by
    refine runE_is _ _ _ _ (by omega) (fun j k1 k2 => ?_) (.inl ⟨?_, by omega⟩)
    · have := hs (j - p) (by omega)
      rw [show p + (j - p) = j by omega] at this
      show isDi (f j) = true
      rw [this]
      have := hdig _ (List.getElem_mem (l := Lib.decDigits v.toNat) (n := j - p) (by omega))
      simp [isDi, this.1, this.2]
    · cases hb : isDi (f (p + (Lib.decDigits v.toNat).length)) with
      | false => rfl
      | true =>
        have hd' : isWo (f (p + (Lib.decDigits v.toNat).length)) = false := hd
        rw [isDi_wo hb] at hd'
        cases hd'
  have hd' : isWo (f (p + (Lib.decDigits v.toNat).length)) = false := hd
  have hok : numOk f p (p + (Lib.decDigits v.toNat).length) = true := by
    unfold numOk
    rw [Bool.and_eq_true, Bool.or_eq_true, decide_eq_true_eq]
    constructor
    · by_cases h48 : c.toNat = 48
      · left
        rw [e, hfst h48]
        exact beq_self_eq_true _
      · right
        rw [g0, bne_iff_ne]
        exact h48
    · have := dig_val f _ p 0 hdig hs
      rw [Nat.add_sub_cancel_left]
      have hv : ((0 : Nat) : Int) = 0 := rfl
      rw [hv, hval] at this
      omega
  unfold tokAt
  rw [hr, if_neg hle, if_pos hdi, if_pos hok, hd', if_neg (by decide)]
def sgc (c d : Nat) : Prop := two c d = false ∧ (c = 47 → d ≠ 47 ∧ d ≠ 42)
theorem lx_one (c : UInt8) (h1 : one c.toNat = true) : Lx (sgc c.toNat) [sg (bs [c])] := by
  refine lx_tok (by decide) (show 0 < 1 by decide) fun f n p hz hs hp hd => ?_
  have h0 : f p = c.toNat := hs 0 (show 0 < 1 by decide)
  have hl : (bs [c]).data.toList.length = 1 := rfl
  rw [hl] at hp hd ⊢
  have hcl : ∀ d : Nat, one d = true → isBl d = false ∧ isLe d = false ∧ isDi d = false := by
    intro d hd
    simp only [one, Bool.or_eq_true, beq_iff_eq] at hd
    repeat' rcases hd with hd | hd
    all_goals decide
  obtain ⟨q1, q2, q3⟩ := hcl _ h1
  have hst : Stl f p := ⟨by rw [h0]; exact q1, fun h => (hd.2 (h0 ▸ h.1)).1 h.2, fun h => (hd.2 (h0 ▸ h.1)).2 h.2⟩
  rw [stepL_stl (by omega) hst]
  unfold tokAt
  have hs1 : sgn (f p) (f (p + 1)) = 1 := by
    unfold sgn
    rw [h0, if_neg (by rw [hd.1]; decide), if_pos h1]
  rw [hs1, if_neg (by rw [h0, q2]; decide), if_neg (by rw [h0, q3]; decide), if_neg (by decide)]
theorem lx_two (c d : UInt8) (h1 : two c.toNat d.toNat = true) : Lx any [sg (bs [c, d])] := by
  refine lx_tok (by decide) (show 0 < 2 by decide) fun f n p hz hs hp _ => ?_
  have h0 : f p = c.toNat := hs 0 (show 0 < 2 by decide)
  have h2 : f (p + 1) = d.toNat := hs 1 (show 1 < 2 by decide)
  have hl : (bs [c, d]).data.toList.length = 2 := rfl
  rw [hl] at hp ⊢
  have hcl : ∀ x y : Nat, two x y = true → isBl x = false ∧ isLe x = false ∧ isDi x = false ∧ x ≠ 47 := by
    intro x y hd
    simp only [two, Bool.or_eq_true, Bool.and_eq_true, beq_iff_eq] at hd
    rcases hd with ((((hd | hd) | hd) | hd) | hd) | hd
    all_goals (obtain ⟨rfl, -⟩ := hd; decide)
  obtain ⟨q1, q2, q3, q4⟩ := hcl _ _ h1
  rw [stepL_stl (by omega) (stl_of (by rw [h0]; exact q1) (by rw [h0]; exact q4))]
  unfold tokAt
  have hs1 : sgn (f p) (f (p + 1)) = 2 := by
    unfold sgn
    rw [h0, h2, if_pos h1]
  rw [hs1, if_neg (by rw [h0, q2]; decide), if_neg (by rw [h0, q3]; decide), if_neg (by decide)]
end Go.Proofs.YtmfoehaeejhlpaaGreatDoor.Yn
