import Derived.Test.YtmfoehaeejhlpaaGreatDoorGaBJ
/-
  The grammar: the shape of what is read: statements.
-/
namespace Go.Proofs.YtmfoehaeejhlpaaGreatDoor.Yn
set_option maxRecDepth 100000
def opn : Tree → Nat | .mk op _ _ _ _ => op
mutual
/-- How many statements there are. -/
def cnt : Tree → Nat | .mk op _ _ l _ => (if 10 ≤ op ∧ op ≤ 22 then 1 else 0) + cnts l
def cnts : List Tree → Nat | [] => 0 | t :: ts => cnt t + cnts ts
end
theorem cnts_app : ∀ l m : List Tree, cnts (l ++ m) = cnts l + cnts m
  | [], m => by rw [List.nil_append, cnts]; omega
  | t :: ts, m => by rw [List.cons_append, cnts, cnts, cnts_app ts m]; omega
theorem cnts_one (t : Tree) : cnts [t] = cnt t := by rw [cnts, cnts]; rfl
theorem cnts_zero {l : List Tree} (h : ∀ x ∈ l, cnt x = 0) : cnts l = 0 := by
  induction l with
  | nil => rw [cnts]
  | cons t ts ih => rw [cnts, h t (List.mem_cons_self ..), ih fun x hx => h x (List.mem_cons_of_mem _ hx)]
def Ex (ws : List ByteArray) (d : Nat) (x : Tree) : Prop := ShE ws x ∧ nE x ≤ d
def Nn (ws : List ByteArray) (x : Tree) : Prop := ∃ t a, x = .mk 31 t 0 [] a ∧ Nm ws t
def Vl (ws : List ByteArray) (d : Nat) (v : Tree) : Prop := ∃ t x a, v = .mk 24 t 0 [x] a ∧ Nm ws t ∧ Ex ws d x
def Pt (ws : List ByteArray) (d : Nat) (p : Tree) : Prop := ∃ e t l a, d = e + 1 ∧ p = .mk 23 t 0 l a ∧ Nm ws t ∧ ∀ v ∈ l, Vl ws e v
inductive OkS (ws : List ByteArray) : Nat → Tree → Prop
  | lett {d : Nat} {t : ByteArray} {x : Tree} {a : Nat} : Nm ws t → Ex ws d x → OkS ws d (.mk 10 t 0 [x] a)
  | set {d : Nat} {t : ByteArray} {x : Tree} {a : Nat} : Nm ws t → Ex ws d x → OkS ws d (.mk 11 t 0 [x] a)
  | setf {d : Nat} {t : ByteArray} {f x : Tree} {a : Nat} : Nm ws t → Nn ws f → Ex ws d x → OkS ws d (.mk 12 t 0 [f, x] a)
  | if2 {d : Nat} {c b : Tree} {a : Nat} : Ex ws d c → OkS ws d b → opn b = 5 → OkS ws d (.mk 13 (bs []) 0 [c, b] a)
  | if3 {d : Nat} {c b x : Tree} {a : Nat} : Ex ws d c → OkS ws d b → opn b = 5 → OkS ws d x → (opn x = 5 ∨ opn x = 13) → OkS ws d (.mk 13 (bs []) 0 [c, b, x] a)
  | loop {d op : Nat} {c b : Tree} {a : Nat} : (op = 14 ∨ op = 15) → Ex ws d c → OkS ws d b → opn b = 5 → OkS ws d (.mk op (bs []) 0 [c, b] a)
  | emit {d : Nat} {x y : Tree} {a : Nat} : Ex ws d x → Ex ws d y → OkS ws d (.mk 16 (bs []) 0 [x, y] a)
  | spawn {d : Nat} {l : List Tree} {a : Nat} : (∀ p, p ∈ l → Pt ws d p) → OkS ws d (.mk 17 (bs []) 0 l a)
  | add {d : Nat} {p : Tree} {a : Nat} : Pt ws d p → OkS ws d (.mk 18 (bs []) 0 [p] a)
  | remove {d : Nat} {t : ByteArray} {a : Nat} : Nm ws t → OkS ws d (.mk 19 t 0 [] a)
  | leaf {d op : Nat} {a : Nat} : (op = 20 ∨ op = 21) → OkS ws d (.mk op (bs []) 0 [] a)
  | ret {d : Nat} {x : Tree} {a : Nat} : Ex ws d x → OkS ws d (.mk 22 (bs []) 0 [x] a)
  | block {d : Nat} {l : List Tree} {a : Nat} : (∀ x, x ∈ l → OkS ws d x) → (∀ x, x ∈ l → 10 ≤ opn x ∧ opn x ≤ 22) → OkS ws (d + 1) (.mk 5 (bs []) 0 l a)
theorem cnt_e {ws : List ByteArray} {x : Tree} (h : ShE ws x) : cnt x = 0 := by
  induction h with
  | num => simp [cnt, cnts]
  | name => simp [cnt, cnts]
  | field => simp [cnt, cnts]
  | bin _ _ _ i1 i2 => simp [cnt, cnts, i1, i2]
  | un _ _ i1 => simp [cnt, cnts, i1]
  | con _ _ _ i1 i2 i3 => simp [cnt, cnts, i1, i2, i3]
  | call _ _ ih => simp [cnt, cnts_zero ih]
  | has => simp [cnt, cnts]
  | word => simp [cnt, cnts]
theorem cnt_n {ws : List ByteArray} {x : Tree} (h : Nn ws x) : cnt x = 0 := by
  obtain ⟨t, a, rfl, -⟩ := h
  simp [cnt, cnts]
theorem cnt_v {ws : List ByteArray} {d : Nat} {x : Tree} (h : Vl ws d x) : cnt x = 0 := by
  obtain ⟨t, y, a, rfl, -, hy⟩ := h
  simp [cnt, cnts, cnt_e hy.1]
theorem cnt_p {ws : List ByteArray} {d : Nat} {x : Tree} (h : Pt ws d x) : cnt x = 0 := by
  obtain ⟨e, t, l, a, -, rfl, -, hl⟩ := h
  simp [cnt, cnts_zero fun v hv => cnt_v (hl v hv)]
structure Kt (s s1 : S) (k c : Nat) : Prop where
  st : s1.st = s.st + c
  sy : s1.sy = s.sy
  fu : s1.fu = s.fu
  su : s1.ts <:+ s.ts
  ln : s1.ts.length + k ≤ s.ts.length
theorem Kr.t {s s1 : S} {k : Nat} (h : Kr s s1 k) : Kt s s1 k 0 := ⟨h.st, h.sy, h.fu, h.su, h.ln⟩
theorem Kt.refl (s : S) : Kt s s 0 0 := (Kr.refl s).t
theorem Kt.trans {s s1 s2 : S} {a b c d : Nat} (h : Kt s s1 a c) (g : Kt s1 s2 b d) : Kt s s2 (a + b) (c + d) := ⟨by have := h.st; have := g.st; omega, g.sy.trans h.sy, g.fu.trans h.fu, g.su.trans h.su, by have := h.ln; have := g.ln; omega⟩
theorem Kt.r {s s1 s2 : S} {a b c : Nat} (h : Kt s s1 a c) (g : Kr s1 s2 b) : Kt s s2 (a + b) c := by
  have := h.trans g.t
  exact this
theorem Kt.le {s s1 : S} {a b c d : Nat} (h : Kt s s1 a c) (hb : b ≤ a) (hd : d = c) : Kt s s1 b d := ⟨by rw [hd]; exact h.st, h.sy, h.fu, h.su, by have := h.ln; omega⟩
theorem Kt.al {s s1 : S} {a c : Nat} (h : Kt s s1 a c) (hs : Al s) : Al s1 := fun t ht => hs t (h.su.subset ht)
theorem Kt.leave {s s1 : S} {a c : Nat} (h : Kt s s1 a c) : Kt s (Yn.leave s1) a c := ⟨h.st, h.sy, h.fu, h.su, h.ln⟩
theorem ex_of {ws : List ByteArray} {n : Nat} {s s1 : S} {t : Tree} (hs : Al s) (hd20 : s.de ≤ 20) (h : Yn.cond ws n s = .ok t s1) : Ex ws (20 - s.de) t ∧ s1.de = s.de ∧ Kr s s1 (sz t) := by
  obtain ⟨h1, h2, h3, h4⟩ := (allE ws n).cond s hs hd20 t s1 h
  exact ⟨⟨h1, by omega⟩, h3, h4⟩
theorem tail_of {ws : List ByteArray} {n : Nat} {s s1 : S} {t : Tree} (hs : Al s) (hd20 : s.de ≤ 20) (h : Yn.tail ws n s = .ok t s1) : Ex ws (20 - s.de) t ∧ s1.de = s.de ∧ Kr s s1 (sz t) := by
  unfold Yn.tail at h
  obtain ⟨x, s2, e1, h⟩ := bnd h
  obtain ⟨x1, x2, x3⟩ := ex_of hs hd20 e1
  obtain ⟨_, s3, e2, h⟩ := bnd h
  obtain ⟨k3, d3, -⟩ := take_ok (by decide) e2
  injection h with h1 h2
  subst h1 h2
  exact ⟨x1, by omega, (x3.trans k3).le (by omega)⟩
theorem field_of {ws : List ByteArray} {n : Nat} {s s1 : S} {t : Tree} (hs : Al s) (hd20 : s.de ≤ 20) (h : Yn.field ws n s = .ok t s1) : Vl ws (20 - s.de) t ∧ s1.de = s.de ∧ Kr s s1 (sz t) := by
  unfold Yn.field at h
  obtain ⟨u, s2, e1, h⟩ := bnd h
  obtain ⟨u1, k2, d2⟩ := name_ok hs e1
  obtain ⟨_, s3, e2, h⟩ := bnd h
  obtain ⟨k3, d3, -⟩ := take_ok (by decide) e2
  obtain ⟨x, s4, e3, h⟩ := bnd h
  obtain ⟨x1, x2, x3⟩ := ex_of ((k2.trans k3).al hs) (by omega) e3
  injection h with h1 h2
  subst h1 h2
  refine ⟨⟨u, x, _, rfl, u1, ?_⟩, by omega, (k2.trans (k3.trans x3)).le (by rw [sz_mk, szs_one]; omega)⟩
  rw [d3, d2] at x1
  exact x1
theorem fields_of {ws : List ByteArray} : ∀ (n : Nat) (l : List Tree) (s : S), Al s → s.de ≤ 20 → (∀ x ∈ l, Vl ws (20 - s.de) x) → ∀ m s1, Yn.fields ws n l s = .ok m s1 → (∀ x ∈ m, Vl ws (20 - s.de) x) ∧ s1.de = s.de ∧ ∃ k, Kr s s1 k ∧ szs m ≤ szs l + k
  | 0, l, s, _, _, _, m, s1, h => by rw [Yn.fields] at h; cases h
  | n + 1, l, s, hs, hd20, hl, m, s1, h => by
    rw [Yn.fields] at h
    split at h
    · rename_i hc
      have k1 := nx_kr (s := s) (.inr (by rw [isAt_eq hc]; decide))
      obtain ⟨x, s2, e1, h⟩ := bnd h
      obtain ⟨x1, x3, x4⟩ := field_of (k1.al hs) hd20 e1
      have x3' : s2.de = s.de := x3
      obtain ⟨m1, m2, k, m3, m4⟩ := fields_of n (l ++ [x]) s2 ((k1.trans x4).al hs) (by omega) (by
        intro y hy
        rw [x3']
        rcases List.mem_append.1 hy with hy | hy
        · exact hl y hy
        · rw [List.mem_singleton] at hy
          subst hy
          exact x1) m s1 h
      rw [x3'] at m1
      refine ⟨m1, by omega, 1 + (sz x + k), k1.trans (x4.trans m3), ?_⟩
      rw [szs_app, szs_one] at m4
      omega
    · injection h with h1 h2
      subst h1 h2
      exact ⟨hl, rfl, 0, Kr.refl s, by omega⟩
theorem part_of {ws : List ByteArray} {n : Nat} {s s1 : S} {t : Tree} (hs : Al s) (hd20 : s.de ≤ 20) (h : Yn.part ws n s = .ok t s1) : Pt ws (20 - s.de) t ∧ s1.de = s.de ∧ Kr s s1 (sz t) := by
  unfold Yn.part at h
  obtain ⟨u, s2, e1, h⟩ := bnd h
  obtain ⟨u1, k2, d2⟩ := name_ok hs e1
  obtain ⟨_, s3, e2, h⟩ := bnd h
  obtain ⟨k3, d3, n3, -⟩ := open_ok (by decide) e2
  obtain ⟨m, s4, e3, h⟩ := bnd h
  obtain ⟨_, s5, e4, h⟩ := bnd h
  obtain ⟨k5, d5, -⟩ := take_ok (by decide) e4
  injection h with h1 h2
  subst h1 h2
  have key : (∀ x ∈ m, Vl ws (20 - s3.de) x) ∧ s4.de = s3.de ∧ Kr s3 s4 (szs m) := by
    split at e3
    · injection e3 with h1 h2
      subst h1 h2
      exact ⟨(by intro x hx; cases hx), rfl, (Kr.refl _).le (by rw [szs]; omega)⟩
    · obtain ⟨x, s6, e5, e3⟩ := bnd e3
      obtain ⟨x1, x3, x4⟩ := field_of ((k2.trans k3).al hs) (by omega) e5
      obtain ⟨m1, m2, k, m3, m4⟩ := fields_of n [x] s6 ((k2.trans (k3.trans x4)).al hs) (by omega) (by
        intro y hy
        rw [List.mem_singleton] at hy
        subst hy
        rw [x3]
        exact x1) m s4 e3
      rw [x3] at m1
      rw [szs_one] at m4
      exact ⟨m1, by omega, (x4.trans m3).le (by omega)⟩
  obtain ⟨m1, m2, m3⟩ := key
  refine ⟨⟨20 - s3.de, u, m, _, by omega, rfl, u1, m1⟩, by show s5.de - 1 = s.de; omega, Kr.leave ((k2.trans (k3.trans (m3.trans k5))).le (by rw [sz_mk]; omega))⟩
theorem parts_of {ws : List ByteArray} : ∀ (n : Nat) (l : List Tree) (s : S), Al s → s.de ≤ 20 → (∀ x ∈ l, Pt ws (20 - s.de) x) → ∀ m s1, Yn.parts ws n l s = .ok m s1 → (∀ x ∈ m, Pt ws (20 - s.de) x) ∧ s1.de = s.de ∧ ∃ k, Kr s s1 k ∧ szs m ≤ szs l + k
  | 0, l, s, _, _, _, m, s1, h => by rw [Yn.parts] at h; cases h
  | n + 1, l, s, hs, hd20, hl, m, s1, h => by
    rw [Yn.parts] at h
    split at h
    · rename_i hc
      have k1 := nx_kr (s := s) (.inr (by rw [isAt_eq hc]; decide))
      obtain ⟨x, s2, e1, h⟩ := bnd h
      obtain ⟨x1, x3, x4⟩ := part_of (k1.al hs) hd20 e1
      have x3' : s2.de = s.de := x3
      obtain ⟨m1, m2, k, m3, m4⟩ := parts_of n (l ++ [x]) s2 ((k1.trans x4).al hs) (by omega) (by
        intro y hy
        rw [x3']
        rcases List.mem_append.1 hy with hy | hy
        · exact hl y hy
        · rw [List.mem_singleton] at hy
          subst hy
          exact x1) m s1 h
      rw [x3'] at m1
      refine ⟨m1, by omega, 1 + (sz x + k), k1.trans (x4.trans m3), ?_⟩
      rw [szs_app, szs_one] at m4
      omega
    · injection h with h1 h2
      subst h1 h2
      exact ⟨hl, rfl, 0, Kr.refl s, by omega⟩
def StR (ws : List ByteArray) (s : S) (t : Tree) (s1 : S) : Prop := OkS ws (20 - s.de) t ∧ (10 ≤ opn t ∧ opn t ≤ 22) ∧ s1.de = s.de ∧ Kt s s1 (sz t) (cnt t) ∧ s1.st ≤ 200
structure AllS (ws : List ByteArray) (n : Nat) : Prop where
  stmt : ∀ s, Al s → s.de ≤ 20 → s.st ≤ 200 → ∀ t s1, Yn.stmt ws n s = .ok t s1 → StR ws s t s1 ∧ (isAt s wIf = true → opn t = 13)
  block : ∀ s, Al s → s.de ≤ 20 → s.st ≤ 200 → ∀ t s1, Yn.block ws n s = .ok t s1 → OkS ws (20 - s.de) t ∧ opn t = 5 ∧ s1.de = s.de ∧ Kt s s1 (sz t + 1) (cnt t) ∧ s1.st ≤ 200
  stmts : ∀ l s, Al s → s.de ≤ 20 → s.st ≤ 200 → (∀ x ∈ l, OkS ws (20 - s.de) x ∧ 10 ≤ opn x ∧ opn x ≤ 22) → ∀ m s1, Yn.stmts ws n l s = .ok m s1 → (∀ x ∈ m, OkS ws (20 - s.de) x ∧ 10 ≤ opn x ∧ opn x ≤ 22) ∧ s1.de = s.de ∧ s1.st ≤ 200 ∧ ∃ k c, Kt s s1 k c ∧ szs m + 1 ≤ szs l + k ∧ cnts m = cnts l + c
theorem cnt_mk (op : Nat) (t : ByteArray) (n : Int) (l : List Tree) (a : Nat) : cnt (.mk op t n l a) = (if 10 ≤ op ∧ op ≤ 22 then 1 else 0) + cnts l := by rw [cnt]
/-- One more statement, and the first token gone. -/
theorem up_kt (s : S) : Kt s (up s) 0 1 := ⟨rfl, rfl, rfl, List.suffix_refl _, by exact Nat.le_refl _⟩
theorem upn_kt {s : S} (h : (hd s).t ≠ bs []) : Kt s (nx (up s)) 1 1 := by
  have := (up_kt s).r (nx_kr (s := up s) (.inr h))
  exact this.le (by omega) rfl
theorem st_leaf {ws : List ByteArray} {s s1 : S} {k op : Nat} {t : ByteArray} {l : List Tree} {a : Nat} (h : OkS ws (20 - s.de) (.mk op t 0 l a)) (ho : 10 ≤ op ∧ op ≤ 22) (hd1 : s1.de = s.de) (hk : Kt s s1 k 1) (hk2 : szs l + 1 ≤ k) (hc : cnts l = 0) (h200 : ¬ s.st = 200) (h2 : s.st ≤ 200) : StR ws s (.mk op t 0 l a) s1 := by
  refine ⟨h, ho, hd1, hk.le (by rw [sz_mk]; omega) (by rw [cnt_mk, if_pos ho, hc]), ?_⟩
  have := hk.st
  omega
theorem way_ne {t : ByteArray} (h : wayOf t ≠ 0) : t ≠ bs [] := by
  intro e
  rw [e] at h
  exact h (by decide)
theorem way_in (t : ByteArray) : wayOf t = 0 ∨ wayOf t = 10 ∨ (13 ≤ wayOf t ∧ wayOf t ≤ 22) := by
  rcases wayOf_cases t with h | ⟨p, hp, -, e⟩
  · exact .inl h.1
  · right
    rw [e]
    have : ∀ p ∈ ways, p.2 = 10 ∨ (13 ≤ p.2 ∧ p.2 ≤ 22) := by decide
    exact this p hp
theorem allS_zero (ws : List ByteArray) : AllS ws 0 := by
  constructor
  · intro s _ _ _ t s1 h; rw [Yn.stmt] at h; cases h
  · intro s _ _ _ t s1 h; rw [Yn.block] at h; cases h
  · intro l s _ _ _ _ t s1 h; rw [Yn.stmts] at h; cases h
theorem block_ge {ws : List ByteArray} {n : Nat} (I : AllS ws n) : ∀ s, Al s → s.de ≤ 20 → s.st ≤ 200 → ∀ t s1, Yn.block ws (n + 1) s = .ok t s1 → OkS ws (20 - s.de) t ∧ opn t = 5 ∧ s1.de = s.de ∧ Kt s s1 (sz t + 1) (cnt t) ∧ s1.st ≤ 200 := by
  intro s hs hd20 h200 t s1 h
  rw [Yn.block] at h
  obtain ⟨_, s2, e1, h⟩ := bnd h
  obtain ⟨k2, d2, n2, -⟩ := open_ok (by decide) e1
  obtain ⟨l, s3, e2, h⟩ := bnd h
  obtain ⟨l1, l2, l3, k, c, l4, l5, l6⟩ := I.stmts [] s2 (k2.al hs) (by omega) (by rw [k2.st]; exact h200) (by intro x hx; cases hx) l s3 e2
  injection h with h1 h2
  subst h1 h2
  rw [szs] at l5
  rw [cnts] at l6
  refine ⟨?_, rfl, by show s3.de - 1 = s.de; omega, Kt.leave ((k2.t.trans l4).le (by rw [sz_mk]; omega) (by rw [cnt_mk, if_neg (by omega)]; omega)), l3⟩
  rw [show 20 - s.de = (20 - s2.de) + 1 by omega]
  exact .block (fun x hx => (l1 x hx).1) (fun x hx => (l1 x hx).2)
theorem stmts_ge {ws : List ByteArray} {n : Nat} (I : AllS ws n) : ∀ l s, Al s → s.de ≤ 20 → s.st ≤ 200 → (∀ x ∈ l, OkS ws (20 - s.de) x ∧ 10 ≤ opn x ∧ opn x ≤ 22) → ∀ m s1, Yn.stmts ws (n + 1) l s = .ok m s1 → (∀ x ∈ m, OkS ws (20 - s.de) x ∧ 10 ≤ opn x ∧ opn x ≤ 22) ∧ s1.de = s.de ∧ s1.st ≤ 200 ∧ ∃ k c, Kt s s1 k c ∧ szs m + 1 ≤ szs l + k ∧ cnts m = cnts l + c := by
  intro l s hs hd20 h200 hl m s1 h
  rw [Yn.stmts] at h
  split at h
  · rename_i hc
    injection h with h1 h2
    subst h1 h2
    exact ⟨hl, rfl, h200, 1, 0, (nx_kr (s := s) (.inr (by rw [isAt_eq hc]; decide))).t, by omega, by omega⟩
  · obtain ⟨x, s2, e1, h⟩ := bnd h
    obtain ⟨⟨x1, x2, x3, x4, x5⟩, -⟩ := I.stmt s hs hd20 h200 x s2 e1
    obtain ⟨m1, m2, m5, k, c, m3, m4, m6⟩ := I.stmts (l ++ [x]) s2 (x4.al hs) (by omega) x5 (by
      intro y hy
      rw [x3]
      rcases List.mem_append.1 hy with hy | hy
      · exact hl y hy
      · rw [List.mem_singleton] at hy
        subst hy
        exact ⟨x1, x2⟩) m s1 h
    rw [x3] at m1
    rw [szs_app, szs_one] at m4
    rw [cnts_app, cnts_one] at m6
    exact ⟨m1, by omega, m5, sz x + k, cnt x + c, x4.trans m3, by omega, by omega⟩
theorem stmt_ge {ws : List ByteArray} {n : Nat} (I : AllS ws n) : ∀ s, Al s → s.de ≤ 20 → s.st ≤ 200 → ∀ t s1, Yn.stmt ws (n + 1) s = .ok t s1 → StR ws s t s1 ∧ (isAt s wIf = true → opn t = 13) := by
  intro s hs hd20 h2 t s1 h
  by_cases h200 : s.st = 200
  · exfalso
    by_cases hw : wayOf (hd s).t = 0
    · cases hn : isName ws s with
      | true => rw [stmt_name_full hw hn h200] at h; cases h
      | false => rw [stmt_name_no hw hn] at h; cases h
    · rw [stmt_word rfl hw h200] at h
      cases h
  · by_cases hw : wayOf (hd s).t = 0
    · have hif : isAt s wIf = true → opn t = 13 := fun e => by
        rw [isAt_eq e] at hw
        exact absurd hw (by decide)
      refine ⟨?_, hif⟩
      cases hn : isName ws s with
      | false => rw [stmt_name_no hw hn] at h; cases h
      | true =>
        rw [stmt_set hw hn h200] at h
        have hsu : Al (up s) := hs
        obtain ⟨u, s2, e1, h⟩ := bnd h
        obtain ⟨u1, k2, d2⟩ := name_ok hsu e1
        have d2' : s2.de = s.de := d2
        have k2' := (up_kt s).r k2
        split at h
        · rename_i hdot
          have k3 := nx_kr (s := s2) (.inr (by rw [isAt_eq hdot]; decide))
          obtain ⟨f, s3, e2, h⟩ := bnd h
          obtain ⟨v, b, rfl, -, hv, k4, d4, -⟩ := nameNode_ok ((k2'.r k3).al hs) e2
          have d4' : s3.de = s2.de := d4
          obtain ⟨_, s4, e3, h⟩ := bnd h
          obtain ⟨k5, d5, -⟩ := take_ok (by decide) e3
          have k5' := ((k2'.r k3).r k4).r k5
          obtain ⟨x, s5, e4, h⟩ := bnd h
          obtain ⟨x1, x2, x3⟩ := tail_of (k5'.al hs) (by omega) e4
          rw [show s4.de = s.de by omega] at x1
          injection h with h1 h2
          subst h1 h2
          exact st_leaf (.setf u1 ⟨v, b, rfl, hv⟩ x1) (by omega) (by omega) (k5'.r x3) (by simp only [szs, sz_mk, List.nil_append, List.cons_append]; omega) (by simp [cnts, cnt_e x1.1, cnt_mk]) h200 h2
        · obtain ⟨_, s4, e3, h⟩ := bnd h
          obtain ⟨k5, d5, -⟩ := take_ok (by decide) e3
          have k5' := k2'.r k5
          obtain ⟨x, s5, e4, h⟩ := bnd h
          obtain ⟨x1, x2, x3⟩ := tail_of (k5'.al hs) (by omega) e4
          rw [show s4.de = s.de by omega] at x1
          injection h with h1 h2
          subst h1 h2
          exact st_leaf (.set u1 x1) (by omega) (by omega) (k5'.r x3) (by simp only [szs, List.nil_append]; omega) (by simp [cnts, cnt_e x1.1]) h200 h2
    · have hne := way_ne hw
      have k1 := upn_kt hne
      have hs1 : Al (nx (up s)) := k1.al hs
      have hif : isAt s wIf = true → wayOf (hd s).t = 13 := fun e => by rw [isAt_eq e]; decide
      rcases way_in (hd s).t with e | e | e
      · exact absurd e hw
      · rw [stmt_let h200 e] at h
        obtain ⟨u, s2, e1, h⟩ := bnd h
        obtain ⟨u1, k2, d2⟩ := name_ok hs1 e1
        have d2' : s2.de = s.de := d2
        obtain ⟨_, s4, e3, h⟩ := bnd h
        obtain ⟨k5, d5, -⟩ := take_ok (by decide) e3
        have k5' := (k1.r k2).r k5
        obtain ⟨x, s5, e4, h⟩ := bnd h
        obtain ⟨x1, x2, x3⟩ := tail_of (k5'.al hs) (by omega) e4
        rw [show s4.de = s.de by omega] at x1
        injection h with h1 h2
        subst h1 h2
        exact ⟨st_leaf (.lett u1 x1) (by omega) (by omega) (k5'.r x3) (by simp only [szs, List.nil_append]; omega) (by simp [cnts, cnt_e x1.1]) h200 h2, fun e' => by have := hif e'; omega⟩
      · have hcas : wayOf (hd s).t = 13 ∨ wayOf (hd s).t = 14 ∨ wayOf (hd s).t = 15 ∨ wayOf (hd s).t = 16 ∨ wayOf (hd s).t = 17 ∨ wayOf (hd s).t = 18 ∨ wayOf (hd s).t = 19 ∨ wayOf (hd s).t = 20 ∨ wayOf (hd s).t = 21 ∨ wayOf (hd s).t = 22 := by omega
        clear e
        rcases hcas with e | e | e | e | e | e | e | e | e | e
        · refine ⟨?_, fun _ => ?_⟩
          · rw [stmt_if h200 e] at h
            obtain ⟨c, s2, e1, h⟩ := bnd h
            obtain ⟨c1, c2, c3⟩ := ex_of hs1 hd20 e1
            have c1' : Ex ws (20 - s.de) c := c1
            have c2' : s2.de = s.de := c2
            have k2 := k1.r c3
            obtain ⟨b, s3, e2, h⟩ := bnd h
            obtain ⟨b1, b2, b3, b4, b5⟩ := I.block s2 (k2.al hs) (by omega) (by have := k2.st; omega) b s3 e2
            rw [c2'] at b1
            have k3 := k2.trans b4
            split at h
            · rename_i hel
              have kel := nx_kr (s := s3) (.inr (by rw [isAt_eq hel]; decide))
              have k4 := k3.r kel
              obtain ⟨x, s4, e3, h⟩ := bnd h
              have key : OkS ws (20 - s.de) x ∧ (opn x = 5 ∨ opn x = 13) ∧ s4.de = s.de ∧ Kt (nx s3) s4 (sz x) (cnt x) ∧ s4.st ≤ 200 := by
                have dn : (nx s3).de = s.de := by show s3.de = s.de; omega
                split at e3
                · rename_i hif2
                  obtain ⟨⟨y1, y2, y3, y4, y5⟩, y6⟩ := I.stmt (nx s3) (k4.al hs) (by omega) b5 x s4 e3
                  rw [dn] at y1
                  exact ⟨y1, .inr (y6 hif2), by omega, y4, y5⟩
                · obtain ⟨y1, y2, y3, y4, y5⟩ := I.block (nx s3) (k4.al hs) (by omega) b5 x s4 e3
                  rw [dn] at y1
                  exact ⟨y1, .inl y2, by omega, y4.le (by omega) rfl, y5⟩
              obtain ⟨y1, y2, y3, y4, y5⟩ := key
              injection h with h1 h2
              subst h1 h2
              refine ⟨.if3 c1' b1 b2 y1 y2, by simp [opn], y3, (k4.trans y4).le ?_ ?_, y5⟩
              · simp only [sz_mk, szs, List.nil_append, List.cons_append]
                omega
              · simp only [cnt_mk, cnts, List.nil_append, List.cons_append, cnt_e c1.1]
                rw [if_pos (by decide)]
                omega
            · injection h with h1 h2
              subst h1 h2
              refine ⟨.if2 c1' b1 b2, by simp [opn], by omega, k3.le ?_ ?_, b5⟩
              · simp only [sz_mk, szs, List.nil_append]
                omega
              · simp only [cnt_mk, cnts, List.nil_append, cnt_e c1.1]
                rw [if_pos (by decide)]
                omega
          · rw [stmt_if h200 e] at h
            obtain ⟨c, s2, e1, h⟩ := bnd h
            obtain ⟨b, s3, e2, h⟩ := bnd h
            split at h
            · obtain ⟨x, s4, e3, h⟩ := bnd h
              injection h with h1 h2
              subst h1
              rfl
            · injection h with h1 h2
              subst h1
              rfl
        iterate 2
          · refine ⟨?_, fun e' => by have := hif e'; omega⟩
            first | rw [stmt_while h200 e] at h | rw [stmt_repeat h200 e] at h
            obtain ⟨c, s2, e1, h⟩ := bnd h
            obtain ⟨c1, c2, c3⟩ := ex_of hs1 hd20 e1
            have c1' : Ex ws (20 - s.de) c := c1
            have c2' : s2.de = s.de := c2
            have k2 := k1.r c3
            obtain ⟨b, s3, e2, h⟩ := bnd h
            obtain ⟨b1, b2, b3, b4, b5⟩ := I.block s2 (k2.al hs) (by omega) (by have := k2.st; omega) b s3 e2
            rw [c2'] at b1
            injection h with h1 h2
            subst h1 h2
            refine ⟨.loop (by omega) c1' b1 b2, by simp [opn], by omega, (k2.trans b4).le ?_ ?_, b5⟩
            · simp only [sz_mk, szs, List.nil_append]
              omega
            · simp only [cnt_mk, cnts, List.nil_append, cnt_e c1.1]
              rw [if_pos (by decide)]
              omega
        · refine ⟨?_, fun e' => by have := hif e'; omega⟩
          rw [stmt_emit h200 e] at h
          obtain ⟨x, s2, e1, h⟩ := bnd h
          obtain ⟨c1, c2, c3⟩ := ex_of hs1 hd20 e1
          have c1' : Ex ws (20 - s.de) x := c1
          have c2' : s2.de = s.de := c2
          obtain ⟨_, s3, e2, h⟩ := bnd h
          obtain ⟨k3, d3, -⟩ := take_ok (by decide) e2
          have k3' := (k1.r c3).r k3
          obtain ⟨y, s4, e3, h⟩ := bnd h
          obtain ⟨y1, y2, y3⟩ := tail_of (k3'.al hs) (by omega) e3
          rw [show s3.de = s.de by omega] at y1
          injection h with h1 h2
          subst h1 h2
          exact st_leaf (.emit c1' y1) (by omega) (by omega) (k3'.r y3) (by simp only [szs, List.nil_append, List.cons_append]; omega) (by simp [cnts, cnt_e c1.1, cnt_e y1.1]) h200 h2
        · refine ⟨?_, fun e' => by have := hif e'; omega⟩
          rw [stmt_spawn h200 e] at h
          obtain ⟨l, s2, e1, h⟩ := bnd h
          have key : (∀ x ∈ l, Pt ws (20 - s.de) x) ∧ s2.de = s.de ∧ Kr (nx (up s)) s2 (szs l) := by
            unfold listS at e1
            split at e1
            · injection e1 with h1 h2
              subst h1 h2
              exact ⟨(by intro x hx; cases hx), rfl, (Kr.refl _).le (by rw [szs]; omega)⟩
            · obtain ⟨x, s6, e5, e1⟩ := bnd e1
              rw [← parts_items] at e1
              obtain ⟨x1, x3, x4⟩ := part_of hs1 hd20 e5
              have x1' : Pt ws (20 - s.de) x := x1
              have x3' : s6.de = s.de := x3
              obtain ⟨m1, m2, k, m3, m4⟩ := parts_of n [x] s6 (x4.al hs1) (by omega) (by
                intro y hy
                rw [List.mem_singleton] at hy
                subst hy
                rw [x3']
                exact x1') l s2 e1
              rw [x3'] at m1
              rw [szs_one] at m4
              exact ⟨m1, by omega, (x4.trans m3).le (by omega)⟩
          obtain ⟨l1, l2, l3⟩ := key
          obtain ⟨_, s3, e2, h⟩ := bnd h
          obtain ⟨k3, d3, -⟩ := take_ok (by decide) e2
          injection h with h1 h2
          subst h1 h2
          exact st_leaf (.spawn l1) (by omega) (by omega) ((k1.r l3).r k3) (by omega) (cnts_zero fun x hx => cnt_p (l1 x hx)) h200 h2
        · refine ⟨?_, fun e' => by have := hif e'; omega⟩
          rw [stmt_add h200 e] at h
          obtain ⟨x, s2, e1, h⟩ := bnd h
          obtain ⟨x1, x2, x3⟩ := part_of hs1 hd20 e1
          have x1' : Pt ws (20 - s.de) x := x1
          have x2' : s2.de = s.de := x2
          obtain ⟨_, s3, e2, h⟩ := bnd h
          obtain ⟨k3, d3, -⟩ := take_ok (by decide) e2
          injection h with h1 h2
          subst h1 h2
          exact st_leaf (.add x1') (by omega) (by omega) ((k1.r x3).r k3) (by simp only [szs, List.nil_append]; omega) (by simp [cnts, cnt_p x1]) h200 h2
        · refine ⟨?_, fun e' => by have := hif e'; omega⟩
          rw [stmt_remove h200 e] at h
          obtain ⟨u, s2, e1, h⟩ := bnd h
          obtain ⟨u1, k2, d2⟩ := name_ok hs1 e1
          have d2' : s2.de = s.de := d2
          obtain ⟨_, s3, e2, h⟩ := bnd h
          obtain ⟨k3, d3, -⟩ := take_ok (by decide) e2
          injection h with h1 h2
          subst h1 h2
          exact st_leaf (.remove u1) (by omega) (by omega) ((k1.r k2).r k3) (by simp only [szs]; omega) (by simp [cnts]) h200 h2
        iterate 2
          · refine ⟨?_, fun e' => by have := hif e'; omega⟩
            first | rw [stmt_die h200 e] at h | rw [stmt_stop h200 e] at h
            obtain ⟨_, s3, e2, h⟩ := bnd h
            obtain ⟨k3, d3, -⟩ := take_ok (by decide) e2
            have d3' : s3.de = s.de := d3
            injection h with h1 h2
            subst h1 h2
            exact st_leaf (.leaf (by omega)) (by omega) d3' (k1.r k3) (by simp only [szs]; omega) (by simp [cnts]) h200 h2
        · refine ⟨?_, fun e' => by have := hif e'; omega⟩
          rw [stmt_return h200 e] at h
          obtain ⟨x, s2, e1, h⟩ := bnd h
          obtain ⟨x1, x2, x3⟩ := tail_of hs1 hd20 e1
          have x1' : Ex ws (20 - s.de) x := x1
          have x2' : s2.de = s.de := x2
          injection h with h1 h2
          subst h1 h2
          exact st_leaf (.ret x1') (by omega) (by omega) (k1.r x3) (by simp only [szs, List.nil_append]; omega) (by simp [cnts, cnt_e x1.1]) h200 h2
theorem allS (ws : List ByteArray) : ∀ n, AllS ws n
  | 0 => allS_zero ws
  | n + 1 => have I := allS ws n; ⟨stmt_ge I, block_ge I, stmts_ge I⟩
end Go.Proofs.YtmfoehaeejhlpaaGreatDoor.Yn
