import Derived.Test.YtmfoehaeejhlpaaGreatDoorGaBK
import Derived.Lib.ItoaNum
/-
  The grammar: the shape of what is read: a program.
-/
namespace Go.Proofs.YtmfoehaeejhlpaaGreatDoor.Yn
set_option maxRecDepth 100000
theorem names_of {ws : List ByteArray} : ∀ (n most sum : Nat) (l : List Tree) (s : S), Al s → sum ≤ most → l.length = sum → (∀ x ∈ l, Nn ws x) → ∀ m s1, Yn.names ws n most sum l s = .ok m s1 → (∀ x ∈ m, Nn ws x) ∧ m ≠ [] ∧ m.length ≤ most ∧ s1.de = s.de ∧ ∃ k, Kr s s1 k ∧ szs m ≤ szs l + k
  | 0, most, sum, l, s, _, _, _, _, m, s1, h => by rw [Yn.names] at h; cases h
  | n + 1, most, sum, l, s, hs, hsm, hln, hl, m, s1, h => by
    rw [Yn.names] at h
    obtain ⟨_, s0, e0, h⟩ := bnd h
    have e0' : s0 = s := by
      unfold needName at e0
      split at e0
      · injection e0 with _ e0; exact e0.symm
      · cases e0
    rw [e0'] at h
    clear e0'
    split at h
    · cases h
    · rename_i hne
      obtain ⟨x, s2, e1, h⟩ := bnd h
      obtain ⟨u, a, rfl, -, hu, k1, d1, -⟩ := nameNode_ok hs e1
      have hall : ∀ y ∈ l ++ [Tree.mk 31 u 0 [] a], Nn ws y := by
        intro y hy
        rcases List.mem_append.1 hy with hy | hy
        · exact hl y hy
        · rw [List.mem_singleton] at hy
          subst hy
          exact ⟨u, a, rfl, hu⟩
      split at h
      · rename_i hc
        have k2 := nx_kr (s := s2) (.inr (by rw [isAt_eq hc]; decide))
        obtain ⟨m1, m2, m3, m4, k, m5, m6⟩ := names_of n most (sum + 1) (l ++ [Tree.mk 31 u 0 [] a]) (nx s2) ((k1.trans k2).al hs) (by omega) (by simp [hln]) hall m s1 h
        have m4' : s1.de = s2.de := m4
        rw [szs_app, szs_one, sz_leaf] at m6
        exact ⟨m1, m2, m3, by omega, 1 + (1 + k), k1.trans (k2.trans m5), by omega⟩
      · injection h with h1 h2
        subst h1 h2
        refine ⟨hall, by simp, by simp [hln]; omega, d1, 1, k1, ?_⟩
        rw [szs_app, szs_one, sz_leaf]
        exact Nat.le_refl _
def OkC (ws : List ByteArray) (w : ByteArray) (c : Tree) : Prop := ∃ l a, c = .mk 3 w 0 l a ∧ ∀ x ∈ l, Nn ws x
theorem clause_of {ws : List ByteArray} {n : Nat} {w : ByteArray} {s s1 : S} {t : Tree} (hw : w ≠ bs []) (hs : Al s) (h : clauseS ws n w s = .ok t s1) : OkC ws w t ∧ s1.de = s.de ∧ ∃ k, Kr s s1 k ∧ sz t ≤ 1 + k := by
  unfold clauseS at h
  split at h
  · rename_i hc
    have k1 := nx_kr (s := s) (.inr (by rw [isAt_eq hc]; exact hw))
    obtain ⟨l, s2, e1, h⟩ := bnd h
    obtain ⟨l1, l2, l3, l4, k, l5, l6⟩ := names_of n _ 0 [] (nx s) (k1.al hs) (by omega) rfl (by intro x hx; cases hx) l s2 e1
    injection h with h1 h2
    subst h1 h2
    rw [szs] at l6
    exact ⟨⟨l, _, rfl, l1⟩, l4, 1 + k, k1.trans l5, by rw [sz_mk]; omega⟩
  · injection h with h1 h2
    subst h1 h2
    exact ⟨⟨[], 0, rfl, (by intro x hx; cases hx)⟩, rfl, 0, Kr.refl s, by rw [sz_leaf]; omega⟩
theorem param_of {ws : List ByteArray} {n : Nat} {s s1 : S} {t : Tree} (hs : Al s) (h : paramS ws n s = .ok t s1) : (∃ l a, t = .mk 3 wFunc 0 l a ∧ (∀ x ∈ l, Nn ws x) ∧ l.length ≤ 4) ∧ s1.de = s.de ∧ Kr s s1 (sz t) := by
  unfold paramS at h
  obtain ⟨_, s2, e1, h⟩ := bnd h
  obtain ⟨k2, d2, -⟩ := take_ok (by decide) e1
  split at h
  · obtain ⟨_, s3, e2, h⟩ := bnd h
    obtain ⟨k3, d3, -⟩ := take_ok (by decide) e2
    injection h with h1 h2
    subst h1 h2
    exact ⟨⟨[], _, rfl, (by intro x hx; cases hx), by simp⟩, by omega, (k2.trans k3).le (by rw [sz_leaf]; omega)⟩
  · obtain ⟨l, s3, e2, h⟩ := bnd h
    obtain ⟨l1, l2, l3, l4, k, l5, l6⟩ := names_of n 4 0 [] s2 (k2.al hs) (by omega) rfl (by intro x hx; cases hx) l s3 e2
    obtain ⟨_, s4, e3, h⟩ := bnd h
    obtain ⟨k4, d4, -⟩ := take_ok (by decide) e3
    injection h with h1 h2
    subst h1 h2
    rw [szs] at l6
    exact ⟨⟨l, _, rfl, l1, l3⟩, by omega, (k2.trans (l5.trans k4)).le (by rw [sz_mk]; omega)⟩
inductive OkM (ws : List ByteArray) : Tree → Prop
  | sys {t : ByteArray} {c0 c1 c2 c3 b : Tree} {a : Nat} : Nm ws t → OkC ws (bs [119, 105, 116, 104]) c0 → OkC ws (bs [119, 105, 116, 104, 111, 117, 116]) c1 → OkC ws (bs [114, 101, 97, 100, 115]) c2 → OkC ws (bs [119, 114, 105, 116, 101, 115]) c3 → OkS ws 20 b → opn b = 5 → OkM ws (.mk 2 t 0 [c0, c1, c2, c3, b] a)
  | fn {t : ByteArray} {l : List Tree} {b : Tree} {a a1 : Nat} : Nm ws t → (∀ x ∈ l, Nn ws x) → l.length ≤ 4 → OkS ws 20 b → opn b = 5 → OkM ws (.mk 4 t 0 [.mk 3 wFunc 0 l a1, b] a)
def cY (l : List Tree) : Nat := (l.filter fun t => decide (opn t = 2)).length
def cF (l : List Tree) : Nat := (l.filter fun t => decide (opn t = 4)).length
theorem okC_placed {ws : List ByteArray} {w : ByteArray} {c : Tree} (a : Nat) (h : OkC ws w c) : OkC ws w (placed a c) := by
  obtain ⟨l, b, rfl, hl⟩ := h
  exact ⟨l, _, rfl, hl⟩
theorem sz_placed (a : Nat) (c : Tree) : sz (placed a c) = sz c := by
  obtain ⟨op, t, n, l, b⟩ := c
  rw [placed, sz_mk, sz_mk]
theorem cnt_c {ws : List ByteArray} {w : ByteArray} {c : Tree} (h : OkC ws w c) : cnt c = 0 := by
  obtain ⟨l, b, rfl, hl⟩ := h
  simp [cnt_mk, cnts_zero fun x hx => cnt_n (hl x hx)]
/-- What a member leaves. -/
structure Km (s s1 : S) (t : Tree) : Prop where
  st : s1.st = s.st + cnt t
  h2 : s1.st ≤ 200
  sy : s1.sy = s.sy + (if opn t = 2 then 1 else 0)
  fu : s1.fu = s.fu + (if opn t = 4 then 1 else 0)
  y16 : s.sy ≤ 16 → s1.sy ≤ 16
  f16 : s.fu ≤ 16 → s1.fu ≤ 16
  su : s1.ts <:+ s.ts
  ln : 2 * s1.ts.length + sz t ≤ 2 * s.ts.length
theorem member_of {ws : List ByteArray} {n : Nat} {s s1 : S} {t : Tree} (hs : Al s) (hde : s.de = 0) (h200 : s.st ≤ 200) (h : memberS ws n s = .ok t s1) : OkM ws t ∧ s1.de = 0 ∧ Km s s1 t := by
  unfold memberS at h
  split at h
  · unfold systemS at h
    split at h
    · cases h
    · rename_i h16
      obtain ⟨_, s2, e1, h⟩ := bnd h
      obtain ⟨k2, d2, -⟩ := take_ok (by decide) e1
      have al2 : Al s2 := k2.al (s := upY s) hs
      obtain ⟨u, s3, e2, h⟩ := bnd h
      obtain ⟨u1, k3, d3⟩ := name_ok al2 e2
      obtain ⟨cl, s4, e3, h⟩ := bnd h
      unfold clausesS clauseWords at e3
      obtain ⟨c0, p0, g0, e3⟩ := bnd e3
      obtain ⟨o0, q0, j0, r0, t0⟩ := clause_of (by decide) (k3.al al2) g0
      unfold clausesS at e3
      obtain ⟨c1, p1, g1, e3⟩ := bnd e3
      obtain ⟨o1, q1, j1, r1, t1⟩ := clause_of (by decide) ((k3.trans r0).al al2) g1
      unfold clausesS at e3
      obtain ⟨c2, p2, g2, e3⟩ := bnd e3
      obtain ⟨o2, q2, j2, r2, t2⟩ := clause_of (by decide) ((k3.trans (r0.trans r1)).al al2) g2
      unfold clausesS at e3
      obtain ⟨c3, p3, g3, e3⟩ := bnd e3
      obtain ⟨o3, q3, j3, r3, t3⟩ := clause_of (by decide) ((k3.trans (r0.trans (r1.trans r2))).al al2) g3
      unfold clausesS at e3
      injection e3 with h1 h2
      subst h1 h2
      have kk := k2.trans (k3.trans (r0.trans (r1.trans (r2.trans r3))))
      have dk : p3.de = 0 := by have : (upY s).de = s.de := rfl; omega
      obtain ⟨b, s5, e4, h⟩ := bnd h
      obtain ⟨b1, b2, b3, b4, b5⟩ := (allS ws n).block p3 (kk.al (s := upY s) hs) (by omega) (by have := kk.st; have : (upY s).st = s.st := rfl; omega) b s5 e4
      rw [dk] at b1
      injection h with h1 h2
      subst h1 h2
      refine ⟨.sys u1 (okC_placed _ o0) (okC_placed _ o1) (okC_placed _ o2) (okC_placed _ o3) b1 b2, by omega, ?_⟩
      have kt := kk.t.trans b4
      have e1 : (upY s).st = s.st := rfl
      have e2 : (upY s).sy = s.sy + 1 := rfl
      have e3 : (upY s).fu = s.fu := rfl
      have e4 : (upY s).ts = s.ts := rfl
      have z1 := kt.st
      have z2 := kt.sy
      have z3 := kt.fu
      have z5 := kt.ln
      rw [e4] at z5
      refine ⟨?_, b5, by simp [opn]; omega, by simp [opn]; omega, fun h => by omega, fun h => by omega, kt.su, ?_⟩
      · have : cnt (.mk 2 u 0 (List.map (placed b.at) ([] ++ [c0] ++ [c1] ++ [c2] ++ [c3]) ++ [b]) (hd s).a) = cnt b := by
          simp only [List.nil_append, List.cons_append, List.map_cons, List.map_nil, cnt_mk, cnts, cnt_c (okC_placed b.at o0), cnt_c (okC_placed b.at o1), cnt_c (okC_placed b.at o2), cnt_c (okC_placed b.at o3)]
          rw [if_neg (by omega)]
          omega
        rw [this]
        omega
      · simp only [List.nil_append, List.cons_append, List.map_cons, List.map_nil, sz_mk, szs, sz_placed]
        omega
  · unfold funcS at h
    split at h
    · split at h
      · cases h
      · rename_i h16
        obtain ⟨_, s2, e1, h⟩ := bnd h
        obtain ⟨k2, d2, -⟩ := take_ok (by decide) e1
        have al2 : Al s2 := k2.al (s := upF s) hs
        obtain ⟨u, s3, e2, h⟩ := bnd h
        obtain ⟨u1, k3, d3⟩ := name_ok al2 e2
        obtain ⟨p, s4, e3, h⟩ := bnd h
        obtain ⟨⟨l, a, rfl, l1, l2⟩, d4, k4⟩ := param_of (k3.al al2) e3
        have kk := k2.trans (k3.trans k4)
        have dk : s4.de = 0 := by have : (upF s).de = s.de := rfl; omega
        obtain ⟨b, s5, e4, h⟩ := bnd h
        obtain ⟨b1, b2, b3, b4, b5⟩ := (allS ws n).block s4 (kk.al (s := upF s) hs) (by omega) (by have := kk.st; have : (upF s).st = s.st := rfl; omega) b s5 e4
        rw [dk] at b1
        injection h with h1 h2
        subst h1 h2
        refine ⟨.fn u1 l1 l2 b1 b2, by omega, ?_⟩
        have kt := kk.t.trans b4
        have e1 : (upF s).st = s.st := rfl
        have e2 : (upF s).sy = s.sy := rfl
        have e3 : (upF s).fu = s.fu + 1 := rfl
        have e4 : (upF s).ts = s.ts := rfl
        have z1 := kt.st
        have z2 := kt.sy
        have z3 := kt.fu
        have z5 := kt.ln
        rw [e4] at z5
        refine ⟨?_, b5, by simp [opn]; omega, by simp [opn]; omega, fun h => by omega, fun h => by omega, kt.su, ?_⟩
        · have : cnt (.mk 4 u 0 ([] ++ [Tree.mk 3 wFunc 0 l a, b]) (hd s).a) = cnt b := by
            simp only [List.nil_append, cnt_mk, cnts, cnts_zero fun x hx => cnt_n (l1 x hx)]
            rw [if_neg (by omega), if_neg (by omega)]
            omega
          rw [this]
          omega
        · simp only [List.nil_append, sz_mk, szs] at *
          omega
    · cases h
def OkP (ws : List ByteArray) (t : Tree) : Prop := ∃ l, t = .mk 1 (bs []) 0 l 0 ∧ (∀ x ∈ l, OkM ws x) ∧ cY l ≤ 16 ∧ cF l ≤ 16 ∧ cnts l ≤ 200
theorem prog_of {ws : List ByteArray} : ∀ (n : Nat) (l : List Tree) (s : S), Al s → s.de = 0 → s.st = cnts l → s.st ≤ 200 → s.sy = cY l → s.sy ≤ 16 → s.fu = cF l → s.fu ≤ 16 → (∀ x ∈ l, OkM ws x) → ∀ t s1, progS ws n l s = .ok t s1 → OkP ws t ∧ sz t ≤ 1 + szs l + 2 * s.ts.length
  | 0, l, s, _, _, _, _, _, _, _, _, _, t, s1, h => by rw [progS] at h; cases h
  | n + 1, l, s, hs, hde, hst, h200, hsy, h16, hfu, hf16, hl, t, s1, h => by
    rw [progS] at h
    split at h
    · injection h with h1 h2
      subst h1 h2
      exact ⟨⟨l, rfl, hl, by omega, by omega, by omega⟩, by rw [sz_mk]; omega⟩
    · obtain ⟨x, s2, e1, h⟩ := bnd h
      obtain ⟨x1, x2, x3⟩ := member_of hs hde h200 e1
      have y1 : cY (l ++ [x]) = cY l + (if opn x = 2 then 1 else 0) := by
        unfold cY
        rw [List.filter_append, List.length_append]
        congr 1
        by_cases e : opn x = 2 <;> simp [e]
      have y2 : cF (l ++ [x]) = cF l + (if opn x = 4 then 1 else 0) := by
        unfold cF
        rw [List.filter_append, List.length_append]
        congr 1
        by_cases e : opn x = 4 <;> simp [e]
      have z1 := x3.st
      have z2 := x3.h2
      have z3 := x3.sy
      have z4 := x3.fu
      have z5 := x3.y16 h16
      have z6 := x3.f16 hf16
      have z7 := x3.ln
      obtain ⟨r1, r2⟩ := prog_of n (l ++ [x]) s2 (fun t ht => hs t (x3.su.subset ht)) x2 (by rw [cnts_app, cnts_one]; omega) z2 (by rw [y1]; omega) z5 (by rw [y2]; omega) z6 (by
        intro y hy
        rcases List.mem_append.1 hy with hy | hy
        · exact hl y hy
        · rw [List.mem_singleton] at hy
          subst hy
          exact x1) t s1 h
      refine ⟨r1, ?_⟩
      rw [szs_app, szs_one] at r2
      omega
end Go.Proofs.YtmfoehaeejhlpaaGreatDoor.Yn

/-
  What is written, in pieces: tokens, and blanks (kind 0); expressions are read as they are written.
-/
namespace Go.Proofs.YtmfoehaeejhlpaaGreatDoor.Yn
set_option maxRecDepth 100000
abbrev Y := Nat × ByteArray
def itB (n : Int) : ByteArray := ⟨(Lib.itoa n).toArray⟩
def bl : Y := (0, bs [32])
def sg (x : ByteArray) : Y := (3, x)
def wd (x : ByteArray) : Y := (1, x)
def opP (least s : Nat) (x : List Y) : List Y := if least ≤ s then x else [sg cOpen] ++ x ++ [sg cClose]
def comR : List (List Y) → List Y
  | [] => []
  | x :: r => [sg cCom, bl] ++ x ++ comR r
def comP : List (List Y) → List Y
  | [] => []
  | x :: r => x ++ comR r
def txn : Tree → ByteArray | .mk _ t _ _ _ => t
def exP (op : Nat) (t : ByteArray) (n : Int) (l : List Tree) (c : List (List Y)) : List Y :=
  if op = 30 then [(2, itB n)]
  else if op = 31 ∨ op = 38 then [wd t]
  else if op = 32 then [wd t, sg cDot, wd (txn (l.getD 0 tn))]
  else if op = 33 then opP (binding t) (str (l.getD 0 tn)) (c.getD 0 []) ++ [bl, sg t, bl] ++ opP (binding t + 1) (str (l.getD 1 tn)) (c.getD 1 [])
  else if op = 34 then [sg t] ++ opP 7 (str (l.getD 0 tn)) (c.getD 0 [])
  else if op = 35 then opP 1 (str (l.getD 0 tn)) (c.getD 0 []) ++ [bl, sg cQu, bl] ++ c.getD 1 [] ++ [bl, sg cCol, bl] ++ c.getD 2 []
  else if op = 36 then [wd t, sg cOpen] ++ comP c ++ [sg cClose]
  else if op = 37 then [wd wHas, sg cOpen, wd t, sg cClose]
  else []
mutual
/-- An expression in pieces. -/
def pE : Tree → List Y | .mk op t n l _ => exP op t n l (pEs l)
def pEs : List Tree → List (List Y) | [] => [] | t :: ts => pE t :: pEs ts
end
def pO (least : Nat) (t : Tree) : List Y := opP least (str t) (pE t)
mutual
/-- A tree without its places. -/
def er : Tree → Tree | .mk op t n l _ => .mk op t n (ers l) 0
def ers : List Tree → List Tree | [] => [] | t :: ts => er t :: ers ts
end
theorem ers_app : ∀ l m : List Tree, ers (l ++ m) = ers l ++ ers m
  | [], m => by rw [List.nil_append, ers]; rfl
  | t :: ts, m => by rw [List.cons_append, ers, ers, ers_app ts m]; rfl
theorem ers_one (t : Tree) : ers [t] = [er t] := by rw [ers, ers]
theorem er_mk (op : Nat) (t : ByteArray) (n : Int) (l : List Tree) (a : Nat) : er (.mk op t n l a) = .mk op t n (ers l) 0 := by rw [er]
def tks (l : List Y) : List Y := l.filter fun y => decide (y.1 ≠ 0)
theorem tks_app (l m : List Y) : tks (l ++ m) = tks l ++ tks m := List.filter_append ..
theorem tks_bl (l : List Y) : tks (bl :: l) = tks l := rfl
theorem tks_sg (x : ByteArray) (l : List Y) : tks (sg x :: l) = sg x :: tks l := rfl
theorem tks_wd (x : ByteArray) (l : List Y) : tks (wd x :: l) = wd x :: tks l := rfl
theorem tks_nil : tks [] = [] := rfl
theorem pE_num (t : ByteArray) (n : Int) (l : List Tree) (a : Nat) : pE (.mk 30 t n l a) = [(2, itB n)] := by simp [pE, exP]
theorem pE_name (t : ByteArray) (n : Int) (l : List Tree) (a : Nat) : pE (.mk 31 t n l a) = [wd t] := by simp [pE, exP]
theorem pE_word (t : ByteArray) (n : Int) (l : List Tree) (a : Nat) : pE (.mk 38 t n l a) = [wd t] := by simp [pE, exP]
theorem pE_field (t f : ByteArray) (n m : Int) (r l : List Tree) (a b : Nat) : pE (.mk 32 t n (.mk 31 f m r b :: l) a) = [wd t, sg cDot, wd f] := by simp [pE, exP, txn]
theorem pE_bin (t : ByteArray) (n : Int) (x y : Tree) (a : Nat) : pE (.mk 33 t n [x, y] a) = pO (binding t) x ++ [bl, sg t, bl] ++ pO (binding t + 1) y := by simp [pE, pEs, exP, pO]
theorem pE_un (t : ByteArray) (n : Int) (x : Tree) (a : Nat) : pE (.mk 34 t n [x] a) = [sg t] ++ pO 7 x := by simp [pE, pEs, exP, pO]
theorem pE_con (t : ByteArray) (n : Int) (x y z : Tree) (a : Nat) : pE (.mk 35 t n [x, y, z] a) = pO 1 x ++ [bl, sg cQu, bl] ++ pE y ++ [bl, sg cCol, bl] ++ pE z := by simp [pE, pEs, exP, pO]
theorem pE_call (t : ByteArray) (n : Int) (l : List Tree) (a : Nat) : pE (.mk 36 t n l a) = [wd t, sg cOpen] ++ comP (pEs l) ++ [sg cClose] := by simp [pE, exP]
theorem pE_has (t : ByteArray) (n : Int) (l : List Tree) (a : Nat) : pE (.mk 37 t n l a) = [wd wHas, sg cOpen, wd t, sg cClose] := by simp [pE, exP]
/-! Digits. -/
theorem dec_dig : ∀ (m u : Nat), u ≤ m → ∀ c ∈ Lib.decDigits u, 48 ≤ c.toNat ∧ c.toNat ≤ 57
  | m, u, h, c, hc => by
    rw [Lib.decDigits] at hc
    split at hc
    · rw [List.mem_singleton] at hc
      subst hc
      rw [UInt8.toNat_ofNat']
      omega
    · rename_i h10
      rcases List.mem_append.1 hc with hc | hc
      · cases m with
        | zero => omega
        | succ m => exact dec_dig m (u / 10) (by omega) c hc
      · rw [List.mem_singleton] at hc
        subst hc
        rw [UInt8.toNat_ofNat']
        omega
theorem dec_val : ∀ (m u : Nat), u ≤ m → (Lib.decDigits u).foldl (fun (a : Int) c => a * 10 + ((c.toNat : Int) - 48)) 0 = (u : Int)
  | m, u, h => by
    rw [Lib.decDigits]
    split
    · rw [List.foldl_cons, List.foldl_nil, UInt8.toNat_ofNat']
      omega
    · rename_i h10
      cases m with
      | zero => omega
      | succ m =>
        rw [List.foldl_append, dec_val m (u / 10) (by omega), List.foldl_cons, List.foldl_nil, UInt8.toNat_ofNat']
        omega
theorem dec_first : ∀ (m u : Nat), u ≤ m → ∃ c r, Lib.decDigits u = c :: r ∧ (c.toNat = 48 → r = [])
  | m, u, h => by
    rw [Lib.decDigits]
    split
    · exact ⟨_, [], rfl, fun _ => rfl⟩
    · rename_i h10
      cases m with
      | zero => omega
      | succ m =>
        obtain ⟨c, r, e, hc⟩ := dec_first m (u / 10) (by omega)
        rw [e]
        refine ⟨c, r ++ [UInt8.ofNat (48 + u % 10)], rfl, fun h0 => ?_⟩
        exfalso
        have hr := hc h0
        have hv := dec_val m (u / 10) (by omega)
        rw [e, hr, List.foldl_cons, List.foldl_nil, h0] at hv
        omega
theorem it_eq {n : Int} (h : 0 ≤ n) : (itB n).data.toList = Lib.decDigits n.toNat := by
  unfold itB Lib.itoa
  rw [if_neg (by omega)]
theorem it_digits {n : Int} (h : 0 ≤ n) : digits (itB n) = n := by
  unfold digits
  rw [it_eq h, dec_val _ _ (Nat.le_refl _)]
  omega
theorem it_ne {n : Int} (h : 0 ≤ n) (c : UInt8) (hc : c.toNat < 48) : itB n ≠ bs [c] := by
  intro e
  have h1 := it_eq h
  rw [e] at h1
  have := dec_dig _ _ (Nat.le_refl n.toNat) c (by rw [← h1]; simp [bs])
  omega
theorem wrd_ne {t : ByteArray} (h : Wrd t) (c : UInt8) (hc : Le.isLe c.toNat = false) : t ≠ bs [c] := by
  rintro rfl
  obtain ⟨⟨d, r, e, hd⟩, -, -⟩ := h
  have e' : [c] = d :: r := e
  injection e' with e1 e2
  rw [← e1, hc] at hd
  cases hd
/-! What is read. -/
def yts (s : S) : List Y := s.ts.map fun t => (t.k, t.t)
def hdT (l : List Y) : ByteArray := (l.headD (0, bs [])).2
structure At (s : S) (l : List Y) (st sy fu de : Nat) : Prop where
  ys : yts s = l
  st : s.st = st
  sy : s.sy = sy
  fu : s.fu = fu
  de : s.de = de
theorem At.hdt {s : S} {l : List Y} {st sy fu de : Nat} (h : At s l st sy fu de) : (hd s).t = hdT l ∧ (hd s).k = (l.headD (0, bs [])).1 := by
  have := h.ys
  unfold hd hdT
  unfold yts at this
  cases hs : s.ts with
  | nil => rw [hs] at this; rw [← this]; exact ⟨rfl, rfl⟩
  | cons x r => rw [hs] at this; rw [← this]; exact ⟨rfl, rfl⟩
theorem At.cons {s : S} {y : Y} {l : List Y} {st sy fu de : Nat} (h : At s (y :: l) st sy fu de) : (hd s).k = y.1 ∧ (hd s).t = y.2 ∧ At (nx s) l st sy fu de := by
  have := h.ys
  unfold yts at this
  cases hs : s.ts with
  | nil => rw [hs] at this; cases this
  | cons x r =>
    rw [hs, List.map_cons] at this
    injection this with h1 h2
    have hh : hd s = x := by unfold hd; rw [hs]; rfl
    refine ⟨by rw [hh, ← h1], by rw [hh, ← h1], ⟨?_, h.st, h.sy, h.fu, h.de⟩⟩
    unfold yts nx
    rw [hs]
    exact h2
theorem At.leave {s : S} {l : List Y} {st sy fu de : Nat} (h : At s l st sy fu (de + 1)) : At (leave s) l st sy fu de := ⟨h.ys, h.st, h.sy, h.fu, by have := h.de; show s.de - 1 = de; omega⟩
def Rr {α : Type} (P : α → Prop) (l : List Y) (st sy fu de : Nat) (r : R α) : Prop := r = .out ∨ ∃ x s', r = .ok x s' ∧ P x ∧ At s' l st sy fu de
section
variable {α β : Type} {P : α → Prop} {Q : β → Prop} {l m : List Y} {st sy fu de st1 sy1 fu1 de1 : Nat} {s : S}
theorem Rr.bind {r : R α} {f : α → S → R β} (h : Rr P l st sy fu de r) (hf : ∀ x s', P x → At s' l st sy fu de → Rr Q m st1 sy1 fu1 de1 (f x s')) : Rr Q m st1 sy1 fu1 de1 (r.bind f) := by
  rcases h with rfl | ⟨x, s', rfl, hx, hs⟩
  · exact .inl rfl
  · exact hf x s' hx hs
theorem Rr.ok {x : α} (h : P x) (hs : At s l st sy fu de) : Rr P l st sy fu de (.ok x s) := .inr ⟨x, s, rfl, h, hs⟩
theorem take_at {y : Y} {x : ByteArray} (hy : y.2 = x) (h : At s (y :: l) st sy fu de) : Rr (fun _ => True) l st sy fu de (take x s) := by
  obtain ⟨-, h2, h3⟩ := h.cons
  unfold take isAt
  rw [h2, hy, decide_eq_true rfl]
  exact Rr.ok trivial h3
theorem open_at {y : Y} {x : ByteArray} (hy : y.2 = x) (h : At s (y :: l) st sy fu de) (hd20 : de + 1 ≤ 20) : Rr (fun _ => True) l st sy fu (de + 1) (openS x s) := by
  obtain ⟨-, h2, h3⟩ := h.cons
  unfold openS isAt
  have := h.de
  rw [h2, hy, decide_eq_true rfl, if_pos rfl, if_neg (by omega)]
  exact Rr.ok trivial ⟨h3.ys, h3.st, h3.sy, h3.fu, by have := h.de; show s.de + 1 = de + 1; omega⟩
theorem isName_at {ws : List ByteArray} {x : ByteArray} (hx : x ∉ ws) (h : At s (wd x :: l) st sy fu de) : isName ws s = true := by
  obtain ⟨h1, h2, h3⟩ := h.cons
  unfold isName
  rw [h1, h2]
  have : inW ws x = false := by
    cases hb : inW ws x with
    | false => rfl
    | true => exact absurd (inW_mem.1 hb) hx
  show (decide (1 = 1) && !inW ws x) = true
  rw [this]
  rfl
theorem name_at {ws : List ByteArray} {x : ByteArray} (hx : x ∉ ws) (h : At s (wd x :: l) st sy fu de) : Rr (fun t => t = x) l st sy fu de (name ws s) := by
  obtain ⟨h1, h2, h3⟩ := h.cons
  unfold name
  rw [isName_at hx h, if_pos rfl]
  exact Rr.ok h2 h3
theorem nameNode_at {ws : List ByteArray} {x : ByteArray} (hx : x ∉ ws) (h : At s (wd x :: l) st sy fu de) : Rr (fun t => ∃ a, t = .mk 31 x 0 [] a) l st sy fu de (nameNode ws s) := by
  obtain ⟨h1, h2, h3⟩ := h.cons
  unfold nameNode
  rw [isName_at hx h, if_pos rfl]
  exact Rr.ok ⟨_, by rw [h2]; rfl⟩ h3
theorem isAt_at {x : ByteArray} (h : At s l st sy fu de) (hx : hdT l ≠ x) : isAt s x = false := by
  unfold isAt
  rw [h.hdt.1]
  exact decide_eq_false hx
theorem isAt_is {y : Y} {x : ByteArray} (hy : y.2 = x) (h : At s (y :: l) st sy fu de) : isAt s x = true := by
  unfold isAt
  rw [h.cons.2.1, hy]
  exact decide_eq_true rfl
end
structure Wsok (ws : List ByteArray) : Prop where
  tick : wTick ∈ ws
  me : wMe ∈ ws
  has : wHas ∈ ws
  built : ∀ t, isBuiltIn t = true → t ∈ ws
  way : ∀ p ∈ ways, p.1 ∈ ws
  els : wElse ∈ ws
  cl : ∀ w ∈ clauseWords, w ∈ ws
  sys : wSystem ∈ ws
  fnc : wFunc ∈ ws
def Fo (l : List Y) : Prop := hdT l ≠ cOpen ∧ hdT l ≠ cDot
def Se (t u : Tree) : Prop := er u = er t
structure AllB (ws : List ByteArray) (n : Nat) : Prop where
  cond : ∀ t s rest st sy fu de, ShE ws t → At s (tks (pE t) ++ rest) st sy fu de → de + nE t ≤ 20 → Fo rest → binding (hdT rest) = 0 → hdT rest ≠ cQu → Rr (Se t) rest st sy fu de (Yn.cond ws n s)
  binary : ∀ least t s rest st sy fu de, 1 ≤ least → least ≤ 7 → ShE ws t → At s (tks (pO least t) ++ rest) st sy fu de → de + opE least t ≤ 20 → Fo rest → binding (hdT rest) < least → Rr (Se t) rest st sy fu de (Yn.binary ws n least s)
  unary : ∀ t s rest st sy fu de, ShE ws t → At s (tks (pO 7 t) ++ rest) st sy fu de → de + opE 7 t ≤ 20 → Fo rest → Rr (Se t) rest st sy fu de (Yn.unary ws n s)
  primary : ∀ t s rest st sy fu de, ShE ws t → opn t ≠ 34 → At s (tks (pO 7 t) ++ rest) st sy fu de → de + opE 7 t ≤ 20 → Fo rest → Rr (Se t) rest st sy fu de (Yn.primary ws n s)
  args : ∀ l s rest st sy fu de, (∀ x ∈ l, ShE ws x) → At s (sg cOpen :: (tks (comP (pEs l)) ++ sg cClose :: rest)) st sy fu de → (∀ x ∈ l, de + 1 + nE x ≤ 20) → de + 1 ≤ 20 → Rr (fun m => ers m = ers l) rest st sy fu de (Yn.args ws n s)
  conds : ∀ acc l s rest st sy fu de, (∀ x ∈ l, ShE ws x) → At s (tks (comR (pEs l)) ++ sg cClose :: rest) st sy fu de → (∀ x ∈ l, de + nE x ≤ 20) → Rr (fun m => ers m = ers acc ++ ers l) (sg cClose :: rest) st sy fu de (Yn.conds ws n acc s)
theorem allB_zero (ws : List ByteArray) : AllB ws 0 := by
  constructor
  · intros; rw [Yn.cond]; exact .inl rfl
  · intros; rw [Yn.binary]; exact .inl rfl
  · intros; rw [Yn.unary]; exact .inl rfl
  · intros; rw [Yn.primary]; exact .inl rfl
  · intros; rw [Yn.args]; exact .inl rfl
  · intros; rw [Yn.conds]; exact .inl rfl
end Go.Proofs.YtmfoehaeejhlpaaGreatDoor.Yn
