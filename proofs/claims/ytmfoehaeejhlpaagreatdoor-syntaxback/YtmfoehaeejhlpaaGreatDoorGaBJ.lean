import Derived.Test.YtmfoehaeejhlpaaGreatDoorGaAP
import Derived.Test.YtmfoehaeejhlpaaGreatDoorGaAT
/-
  The grammar: the shape of what is read, and how deep it lies when it is written: expressions.
-/
namespace Go.Proofs.YtmfoehaeejhlpaaGreatDoor.Yn
set_option maxRecDepth 100000
def tn : Tree := .mk 0 (bs []) 0 [] 0
def str : Tree → Nat | .mk op t _ _ _ => if op = 35 then 0 else if op = 33 then binding t else 7
def opN (least s x : Nat) : Nat := if least ≤ s then x else x + 1
def nX (op : Nat) (t : ByteArray) (l : List Tree) (c : List Nat) : Nat :=
  if op = 33 then max (opN (binding t) (str (l.getD 0 tn)) (c.getD 0 0)) (opN (binding t + 1) (str (l.getD 1 tn)) (c.getD 1 0))
  else if op = 34 then 1 + opN 7 (str (l.getD 0 tn)) (c.getD 0 0)
  else if op = 35 then max (opN 1 (str (l.getD 0 tn)) (c.getD 0 0)) (1 + max (c.getD 1 0) (c.getD 2 0))
  else if op = 36 then 1 + c.foldr max 0 else 0
mutual
/-- How much deeper an expression goes, as it is written. -/
def nE : Tree → Nat | .mk op t _ l _ => nX op t l (nEs l)
def nEs : List Tree → List Nat | [] => [] | t :: ts => nE t :: nEs ts
end
mutual
def sz : Tree → Nat | .mk _ _ _ l _ => 1 + szs l
def szs : List Tree → Nat | [] => 0 | t :: ts => sz t + szs ts
end
theorem szs_app : ∀ l m : List Tree, szs (l ++ m) = szs l + szs m
  | [], m => by rw [List.nil_append, szs]; omega
  | t :: ts, m => by rw [List.cons_append, szs, szs, szs_app ts m]; omega
theorem szs_one (t : Tree) : szs [t] = sz t := by rw [szs, szs]; rfl
def Wrd (t : ByteArray) : Prop := (∃ c r, t.data.toList = c :: r ∧ Le.isLe c.toNat = true) ∧ (∀ c ∈ t.data.toList, Le.isWo c.toNat = true) ∧ t.size ≤ 16
def Nm (ws : List ByteArray) (t : ByteArray) : Prop := Wrd t ∧ t ∉ ws
inductive ShE (ws : List ByteArray) : Tree → Prop
  | num {n : Int} {a : Nat} : 0 ≤ n → n ≤ 9223372036854775807 → ShE ws (.mk 30 (bs []) n [] a)
  | name {t : ByteArray} {a : Nat} : Nm ws t → ShE ws (.mk 31 t 0 [] a)
  | field {t f : ByteArray} {a b : Nat} : Nm ws t → Nm ws f → ShE ws (.mk 32 t 0 [.mk 31 f 0 [] b] a)
  | bin {t : ByteArray} {x y : Tree} {a : Nat} : 1 ≤ binding t → ShE ws x → ShE ws y → ShE ws (.mk 33 t 0 [x, y] a)
  | un {t : ByteArray} {x : Tree} {a : Nat} : t = cMin ∨ t = cNot → ShE ws x → ShE ws (.mk 34 t 0 [x] a)
  | con {x y z : Tree} {a : Nat} : ShE ws x → ShE ws y → ShE ws z → ShE ws (.mk 35 (bs []) 0 [x, y, z] a)
  | call {t : ByteArray} {l : List Tree} {a : Nat} : (isBuiltIn t = true ∨ Nm ws t) → (∀ x, x ∈ l → ShE ws x) → ShE ws (.mk 36 t 0 l a)
  | has {t : ByteArray} {a : Nat} : Nm ws t → ShE ws (.mk 37 t 0 [] a)
  | word {t : ByteArray} {a : Nat} : t = wTick ∨ t = wMe → ShE ws (.mk 38 t 0 [] a)
def Gt (t : Tok) : Prop := (t.k = 1 → Wrd t.t) ∧ (t.k = 2 → 0 ≤ digits t.t ∧ digits t.t ≤ 9223372036854775807)
def Al (s : S) : Prop := ∀ t ∈ s.ts, Gt t
/-- What is read leaves all but the tokens and the depth; k tokens at least are gone. -/
structure Kr (s s1 : S) (k : Nat) : Prop where
  st : s1.st = s.st
  sy : s1.sy = s.sy
  fu : s1.fu = s.fu
  su : s1.ts <:+ s.ts
  ln : s1.ts.length + k ≤ s.ts.length
theorem Kr.refl (s : S) : Kr s s 0 := ⟨rfl, rfl, rfl, List.suffix_refl _, by omega⟩
theorem Kr.trans {s s1 s2 : S} {a b : Nat} (h : Kr s s1 a) (g : Kr s1 s2 b) : Kr s s2 (a + b) := ⟨g.st.trans h.st, g.sy.trans h.sy, g.fu.trans h.fu, g.su.trans h.su, by have := h.ln; have := g.ln; omega⟩
theorem Kr.le {s s1 : S} {a b : Nat} (h : Kr s s1 a) (hb : b ≤ a) : Kr s s1 b := ⟨h.st, h.sy, h.fu, h.su, by have := h.ln; omega⟩
theorem Kr.al {s s1 : S} {a : Nat} (h : Kr s s1 a) (hs : Al s) : Al s1 := fun t ht => hs t (h.su.subset ht)
theorem Kr.leave {s s1 : S} {a : Nat} (h : Kr s s1 a) : Kr s (Yn.leave s1) a := ⟨h.st, h.sy, h.fu, h.su, h.ln⟩
theorem bnd {α β : Type} {r : R α} {f : α → S → R β} {x : β} {s1 : S} (h : r.bind f = .ok x s1) : ∃ y s', r = .ok y s' ∧ f y s' = .ok x s1 := by
  cases r with
  | ok y s' => exact ⟨y, s', rfl, h⟩
  | no a e => cases h
  | out => cases h
theorem ts_of {s : S} (h : (hd s).k ≠ 0 ∨ (hd s).t ≠ bs []) : s.ts = hd s :: (nx s).ts := by
  unfold hd nx at *
  cases hs : s.ts with
  | nil => rw [hs] at h; rcases h with h | h <;> exact absurd rfl h
  | cons x l => rfl
theorem nx_kr {s : S} (h : (hd s).k ≠ 0 ∨ (hd s).t ≠ bs []) : Kr s (nx s) 1 := by
  have e := ts_of h
  refine ⟨rfl, rfl, rfl, ?_, ?_⟩
  · rw [e]; exact List.suffix_cons _ _
  · rw [e, List.length_cons]; exact Nat.le_refl _
theorem hd_gt {s : S} (hs : Al s) (h : (hd s).k ≠ 0 ∨ (hd s).t ≠ bs []) : Gt (hd s) := hs _ (by rw [ts_of h]; exact List.mem_cons_self ..)
theorem isAt_eq {s : S} {x : ByteArray} (h : isAt s x = true) : (hd s).t = x := of_decide_eq_true h
theorem take_ok {x : ByteArray} {s s1 : S} {k : Tok} (hx : x ≠ bs []) (h : take x s = .ok k s1) : Kr s s1 1 ∧ s1.de = s.de ∧ (hd s).t = x := by
  unfold take at h
  split at h
  · rename_i hc
    have e := isAt_eq hc
    injection h with _ h
    subst h
    exact ⟨nx_kr (.inr (by rw [e]; exact hx)), rfl, e⟩
  · cases h
theorem open_ok {x : ByteArray} {s s1 : S} {k : Unit} (hx : x ≠ bs []) (h : openS x s = .ok k s1) : Kr s s1 1 ∧ s1.de = s.de + 1 ∧ s.de ≠ 20 ∧ (hd s).t = x := by
  unfold openS at h
  split at h
  · rename_i hc
    split at h
    · cases h
    · rename_i hd20
      have e := isAt_eq hc
      injection h with _ h
      subst h
      have k := nx_kr (s := s) (.inr (by rw [e]; exact hx))
      exact ⟨⟨k.st, k.sy, k.fu, k.su, k.ln⟩, rfl, hd20, e⟩
  · cases h
theorem isName_ok {ws : List ByteArray} {s : S} (hs : Al s) (h : isName ws s = true) : Nm ws (hd s).t ∧ (hd s).k = 1 := by
  unfold isName at h
  rw [Bool.and_eq_true, decide_eq_true_eq, Bool.not_eq_true'] at h
  refine ⟨⟨(hd_gt hs (.inl (by omega))).1 h.1, fun hm => ?_⟩, h.1⟩
  rw [← inW_mem, h.2] at hm
  cases hm
theorem name_ok {ws : List ByteArray} {s s1 : S} {t : ByteArray} (hs : Al s) (h : name ws s = .ok t s1) : Nm ws t ∧ Kr s s1 1 ∧ s1.de = s.de := by
  unfold name at h
  split at h
  · rename_i hc
    have e := isName_ok hs hc
    injection h with h1 h2
    subst h1 h2
    exact ⟨e.1, nx_kr (.inl (by rw [e.2]; decide)), rfl⟩
  · cases h
theorem nameNode_ok {ws : List ByteArray} {s s1 : S} {t : Tree} (hs : Al s) (h : nameNode ws s = .ok t s1) : ∃ u a, t = .mk 31 u 0 [] a ∧ u = (hd s).t ∧ Nm ws u ∧ Kr s s1 1 ∧ s1.de = s.de ∧ s1 = nx s := by
  unfold nameNode at h
  split at h
  · rename_i hc
    have e := isName_ok hs hc
    injection h with h1 h2
    subst h1 h2
    exact ⟨_, _, rfl, rfl, e.1, nx_kr (.inl (by rw [e.2]; decide)), rfl, rfl⟩
  · cases h
theorem opN_le (least s x : Nat) : opN least s x ≤ x + 1 := by unfold opN; split <;> omega
theorem opN_ge (least s x : Nat) : x ≤ opN least s x := by unfold opN; split <;> omega
theorem opN_mono {a b s x : Nat} (h : a ≤ b) : opN a s x ≤ opN b s x := by unfold opN; split <;> split <;> omega
theorem bind_lt (t : ByteArray) : binding t ≤ 6 := by
  unfold binding
  repeat' split
  all_goals omega
theorem bind_ne {t : ByteArray} (h : 1 ≤ binding t) : t ≠ bs [] := by
  intro e
  rw [e] at h
  exact absurd h (by decide)
theorem builtIn_ne {t : ByteArray} (h : isBuiltIn t = true) : t ≠ bs [] := by
  intro e
  rw [e] at h
  exact absurd h (by decide)
theorem nE_bin (t : ByteArray) (n : Int) (x y : Tree) (a : Nat) : nE (.mk 33 t n [x, y] a) = max (opN (binding t) (str x) (nE x)) (opN (binding t + 1) (str y) (nE y)) := by simp [nE, nEs, nX]
theorem nE_un (t : ByteArray) (n : Int) (x : Tree) (a : Nat) : nE (.mk 34 t n [x] a) = 1 + opN 7 (str x) (nE x) := by simp [nE, nEs, nX]
theorem nE_con (t : ByteArray) (n : Int) (x y z : Tree) (a : Nat) : nE (.mk 35 t n [x, y, z] a) = max (opN 1 (str x) (nE x)) (1 + max (nE y) (nE z)) := by simp [nE, nEs, nX]
theorem nEs_max (m : Nat) : ∀ l : List Tree, (∀ x ∈ l, nE x ≤ m) ↔ (nEs l).foldr max 0 ≤ m
  | [] => by rw [nEs]; simp
  | t :: ts => by
    rw [nEs, List.foldr_cons]
    have := nEs_max m ts
    constructor
    · intro h
      have h1 := this.1 fun x hx => h x (List.mem_cons_of_mem _ hx)
      have h2 := h t (List.mem_cons_self ..)
      omega
    · intro h x hx
      rcases List.mem_cons.1 hx with rfl | hx
      · omega
      · exact this.2 (by omega) x hx
theorem nE_call (t : ByteArray) (n : Int) (l : List Tree) (a : Nat) : nE (.mk 36 t n l a) = 1 + (nEs l).foldr max 0 := by simp [nE, nX]
theorem nE_leaf {op : Nat} (h : op = 30 ∨ op = 31 ∨ op = 32 ∨ op = 37 ∨ op = 38) (t : ByteArray) (n : Int) (l : List Tree) (a : Nat) : nE (.mk op t n l a) = 0 := by
  rcases h with rfl | rfl | rfl | rfl | rfl <;> simp [nE, nX]
theorem str_leaf {op : Nat} (h : op ≠ 35 ∧ op ≠ 33) (t : ByteArray) (n : Int) (l : List Tree) (a : Nat) : str (.mk op t n l a) = 7 := by simp [str, h.1, h.2]
theorem str_bin (t : ByteArray) (n : Int) (l : List Tree) (a : Nat) : str (.mk 33 t n l a) = binding t := by simp [str]
theorem str_con (t : ByteArray) (n : Int) (l : List Tree) (a : Nat) : str (.mk 35 t n l a) = 0 := by simp [str]
/-- What is read of an expression. -/
def Ge (ws : List ByteArray) (lim : Tree → Nat) (s : S) (r : R Tree) : Prop := ∀ t s1, r = .ok t s1 → ShE ws t ∧ s.de + lim t ≤ 20 ∧ s1.de = s.de ∧ Kr s s1 (sz t)
def opE (least : Nat) (t : Tree) : Nat := opN least (str t) (nE t)
structure AllE (ws : List ByteArray) (n : Nat) : Prop where
  cond : ∀ s, Al s → s.de ≤ 20 → Ge ws nE s (Yn.cond ws n s)
  binary : ∀ least s, 1 ≤ least → least ≤ 7 → Al s → s.de ≤ 20 → Ge ws (opE least) s (Yn.binary ws n least s) ∧ ∀ t s1, Yn.binary ws n least s = .ok t s1 → binding (hd s1).t < least
  binL : ∀ least left s, 1 ≤ least → least ≤ 7 → Al s → s.de ≤ 20 → ShE ws left → s.de + opE (max least (binding (hd s).t)) left ≤ 20 → ∀ t s1, Yn.binL ws n least left s = .ok t s1 → ShE ws t ∧ s.de + opE least t ≤ 20 ∧ s1.de = s.de ∧ (∃ k, Kr s s1 k ∧ sz t ≤ sz left + k) ∧ binding (hd s1).t < least
  unary : ∀ s, Al s → s.de ≤ 20 → Ge ws (opE 7) s (Yn.unary ws n s)
  primary : ∀ s, Al s → s.de ≤ 20 → Ge ws (opE 7) s (Yn.primary ws n s)
  args : ∀ s, Al s → s.de ≤ 20 → ∀ l s1, Yn.args ws n s = .ok l s1 → (∀ x ∈ l, ShE ws x ∧ s.de + 1 + nE x ≤ 20) ∧ s.de + 1 ≤ 20 ∧ s1.de = s.de ∧ Kr s s1 (szs l)
  conds : ∀ l s, Al s → s.de ≤ 20 → (∀ x ∈ l, ShE ws x ∧ s.de + nE x ≤ 20) → ∀ m s1, Yn.conds ws n l s = .ok m s1 → (∀ x ∈ m, ShE ws x ∧ s.de + nE x ≤ 20) ∧ s1.de = s.de ∧ ∃ k, Kr s s1 k ∧ szs m ≤ szs l + k
theorem sz_leaf (op : Nat) (t : ByteArray) (n : Int) (a : Nat) : sz (.mk op t n [] a) = 1 := by simp [sz, szs]
theorem sz_mk (op : Nat) (t : ByteArray) (n : Int) (l : List Tree) (a : Nat) : sz (.mk op t n l a) = 1 + szs l := by rw [sz]
theorem allE_zero (ws : List ByteArray) : AllE ws 0 := by
  constructor
  · intro s _ _ t s1 h; rw [Yn.cond] at h; cases h
  · intro least s _ _ _ _
    refine ⟨?_, ?_⟩
    · intro t s1 h
      rw [Yn.binary] at h
      cases h
    · intro t s1 h
      rw [Yn.binary] at h
      cases h
  · intro least left s _ _ _ _ _ _ t s1 h; rw [Yn.binL] at h; cases h
  · intro s _ _ t s1 h; rw [Yn.unary] at h; cases h
  · intro s _ _ t s1 h; rw [Yn.primary] at h; cases h
  · intro s _ _ t s1 h; rw [Yn.args] at h; cases h
  · intro l s _ _ _ t s1 h; rw [Yn.conds] at h; cases h
theorem opE_max {a : Nat} {t : Tree} (b : Nat) (h : b ≤ a) : opE b t ≤ opE a t := opN_mono h
theorem opE_7 {op : Nat} (h : op ≠ 35 ∧ op ≠ 33) (t : ByteArray) (n : Int) (l : List Tree) (a k : Nat) (hk : k ≤ 7) : opE k (.mk op t n l a) = nE (.mk op t n l a) := by
  unfold opE opN
  rw [str_leaf h, if_pos hk]
theorem cond_ge {ws : List ByteArray} {n : Nat} (I : AllE ws n) : ∀ s, Al s → s.de ≤ 20 → Ge ws nE s (Yn.cond ws (n + 1) s) := by
  intro s hs hd20 t s1 h
  rw [Yn.cond] at h
  obtain ⟨x, s2, e1, h⟩ := bnd h
  obtain ⟨x1, x2, x3, x4⟩ := (I.binary 1 s (by omega) (by omega) hs hd20).1 x s2 e1
  have hs2 := x4.al hs
  split at h
  · obtain ⟨_, s3, e2, h⟩ := bnd h
    obtain ⟨k3, d3, n3, -⟩ := open_ok (by decide) e2
    have hs3 := k3.al hs2
    obtain ⟨y, s4, e3, h⟩ := bnd h
    obtain ⟨y1, y2, y3, y4⟩ := I.cond s3 hs3 (by omega) y s4 e3
    have hs4 := y4.al hs3
    obtain ⟨_, s5, e4, h⟩ := bnd h
    obtain ⟨k5, d5, -⟩ := take_ok (by decide) e4
    have hs5 := k5.al hs4
    obtain ⟨z, s6, e5, h⟩ := bnd h
    obtain ⟨z1, z2, z3, z4⟩ := I.cond s5 hs5 (by omega) z s6 e5
    injection h with h1 h2
    subst h1 h2
    refine ⟨.con x1 y1 z1, ?_, ?_, ?_⟩
    · rw [nE_con]
      unfold opE at x2
      omega
    · show s6.de - 1 = s.de
      omega
    · refine Kr.leave ?_
      refine (x4.trans (k3.trans (y4.trans (k5.trans z4)))).le ?_
      simp only [sz_mk, szs]
      omega
  · injection h with h1 h2
    subst h1 h2
    refine ⟨x1, ?_, x3, x4⟩
    have := opN_ge 1 (str x) (nE x)
    unfold opE at x2
    omega
theorem binary_ge {ws : List ByteArray} {n : Nat} (I : AllE ws n) : ∀ least s, 1 ≤ least → least ≤ 7 → Al s → s.de ≤ 20 → Ge ws (opE least) s (Yn.binary ws (n + 1) least s) ∧ ∀ t s1, Yn.binary ws (n + 1) least s = .ok t s1 → binding (hd s1).t < least := by
  intro least s hl hl7 hs hd20
  have key : ∀ t s1, Yn.binary ws (n + 1) least s = .ok t s1 → (ShE ws t ∧ s.de + opE least t ≤ 20 ∧ s1.de = s.de ∧ Kr s s1 (sz t)) ∧ binding (hd s1).t < least := by
    intro t s1 h
    rw [Yn.binary] at h
    obtain ⟨x, s2, e1, h⟩ := bnd h
    obtain ⟨x1, x2, x3, x4⟩ := I.unary s hs hd20 x s2 e1
    have := opE_max (t := x) (max least (binding (hd s2).t)) (a := 7) (by have := bind_lt (hd s2).t; omega)
    obtain ⟨y1, y2, y3, ⟨k, y4, y5⟩, y6⟩ := I.binL least x s2 hl hl7 (x4.al hs) (by omega) x1 (by omega) t s1 h
    exact ⟨⟨y1, by omega, by omega, (x4.trans y4).le (by omega)⟩, y6⟩
  exact ⟨fun t s1 h => (key t s1 h).1, fun t s1 h => (key t s1 h).2⟩
theorem binL_ge {ws : List ByteArray} {n : Nat} (I : AllE ws n) : ∀ least left s, 1 ≤ least → least ≤ 7 → Al s → s.de ≤ 20 → ShE ws left → s.de + opE (max least (binding (hd s).t)) left ≤ 20 → ∀ t s1, Yn.binL ws (n + 1) least left s = .ok t s1 → ShE ws t ∧ s.de + opE least t ≤ 20 ∧ s1.de = s.de ∧ (∃ k, Kr s s1 k ∧ sz t ≤ sz left + k) ∧ binding (hd s1).t < least := by
  intro least left s hl hl7 hs hd20 hsh hop t s1 h
  rw [Yn.binL] at h
  split at h
  · rename_i hb
    injection h with h1 h2
    subst h1 h2
    have := opE_max (t := left) least (a := max least (binding (hd s).t)) (by omega)
    exact ⟨hsh, by omega, rfl, ⟨0, Kr.refl s, by omega⟩, hb⟩
  · rename_i hb
    have hb6 := bind_lt (hd s).t
    have k1 := nx_kr (s := s) (.inr (bind_ne (by omega)))
    obtain ⟨y, s2, e1, h⟩ := bnd h
    have hb2 := (I.binary (binding (hd s).t + 1) (nx s) (by omega) (by omega) (k1.al hs) hd20).2 y s2 e1
    obtain ⟨y1, y2, y3, y4⟩ := (I.binary (binding (hd s).t + 1) (nx s) (by omega) (by omega) (k1.al hs) hd20).1 y s2 e1
    have y2' : s.de + opE (binding (hd s).t + 1) y ≤ 20 := y2
    have y3' : s2.de = s.de := y3
    have em : max least (binding (hd s).t) = binding (hd s).t := by omega
    rw [em] at hop
    have enew : opE (max least (binding (hd s2).t)) (.mk 33 (hd s).t 0 [left, y] (hd s).a) = max (opE (binding (hd s).t) left) (opE (binding (hd s).t + 1) y) := by
      unfold opE
      rw [str_bin, nE_bin]
      unfold opN
      rw [if_pos (show max least (binding (hd s2).t) ≤ binding (hd s).t by omega)]
    obtain ⟨z1, z2, z3, ⟨k, z4, z5⟩, z6⟩ := I.binL least (.mk 33 (hd s).t 0 [left, y] (hd s).a) s2 hl hl7 ((k1.trans y4).al hs) (by omega) (.bin (by omega) hsh y1) (by rw [enew]; omega) t s1 h
    refine ⟨z1, by omega, by omega, ⟨1 + sz y + k, ((k1.trans y4).trans z4), ?_⟩, z6⟩
    rw [sz_mk, szs, szs, szs] at z5
    omega
theorem unary_ge {ws : List ByteArray} {n : Nat} (I : AllE ws n) : ∀ s, Al s → s.de ≤ 20 → Ge ws (opE 7) s (Yn.unary ws (n + 1) s) := by
  intro s hs hd20 t s1 h
  rw [Yn.unary] at h
  split at h
  · rename_i hc
    rw [Bool.or_eq_true] at hc
    have ht : (hd s).t = cMin ∨ (hd s).t = cNot := hc.imp isAt_eq isAt_eq
    obtain ⟨_, s2, e1, h⟩ := bnd h
    obtain ⟨k2, d2, n2, -⟩ := open_ok (by rcases ht with e | e <;> rw [e] <;> decide) e1
    obtain ⟨x, s3, e2, h⟩ := bnd h
    obtain ⟨x1, x2, x3, x4⟩ := I.unary s2 (k2.al hs) (by omega) x s3 e2
    injection h with h1 h2
    subst h1 h2
    refine ⟨.un ht x1, ?_, ?_, ?_⟩
    · rw [opE_7 (by decide) _ _ _ _ _ (by omega), nE_un]
      unfold opE at x2
      omega
    · show s3.de - 1 = s.de
      omega
    · refine Kr.leave ((k2.trans x4).le ?_)
      rw [sz_mk, szs, szs]
      omega
  · exact I.primary s hs hd20 t s1 h
theorem prim_leaf {ws : List ByteArray} {op : Nat} {t : ByteArray} {n : Int} {l : List Tree} {a : Nat} {s s1 : S} (ho : op = 30 ∨ op = 31 ∨ op = 32 ∨ op = 37 ∨ op = 38) (h : ShE ws (.mk op t n l a)) (hd20 : s.de ≤ 20) (hd1 : s1.de = s.de) (hk : Kr s s1 (sz (.mk op t n l a))) : ShE ws (.mk op t n l a) ∧ s.de + opE 7 (.mk op t n l a) ≤ 20 ∧ s1.de = s.de ∧ Kr s s1 (sz (.mk op t n l a)) := by
  refine ⟨h, ?_, hd1, hk⟩
  rw [opE_7 (by omega) _ _ _ _ _ (by omega), nE_leaf ho]
  omega
theorem primary_ge {ws : List ByteArray} {n : Nat} (I : AllE ws n) : ∀ s, Al s → s.de ≤ 20 → Ge ws (opE 7) s (Yn.primary ws (n + 1) s) := by
  intro s hs hd20 t s1 h
  rw [Yn.primary] at h
  split at h
  · obtain ⟨_, s2, e1, h⟩ := bnd h
    obtain ⟨k2, d2, n2, -⟩ := open_ok (by decide) e1
    obtain ⟨x, s3, e2, h⟩ := bnd h
    obtain ⟨x1, x2, x3, x4⟩ := I.cond s2 (k2.al hs) (by omega) x s3 e2
    obtain ⟨_, s4, e3, h⟩ := bnd h
    obtain ⟨k4, d4, -⟩ := take_ok (by decide) e3
    injection h with h1 h2
    subst h1 h2
    refine ⟨x1, ?_, ?_, ?_⟩
    · have := opN_le 7 (str x) (nE x)
      unfold opE
      omega
    · show s4.de - 1 = s.de
      omega
    · exact Kr.leave ((k2.trans (x4.trans k4)).le (by omega))
  · split at h
    · rename_i hk
      injection h with h1 h2
      subst h1 h2
      have g := (hd_gt hs (.inl (by omega))).2 hk
      exact prim_leaf (by omega) (.num g.1 g.2) hd20 rfl ((nx_kr (.inl (by omega))).le (by rw [sz_leaf]; omega))
    · split at h
      · rename_i hc
        rw [Bool.or_eq_true] at hc
        have ht : (hd s).t = wTick ∨ (hd s).t = wMe := hc.imp isAt_eq isAt_eq
        injection h with h1 h2
        subst h1 h2
        exact prim_leaf (by omega) (.word ht) hd20 rfl ((nx_kr (.inr (by rcases ht with e | e <;> rw [e] <;> decide))).le (by rw [sz_leaf]; omega))
      · split at h
        · obtain ⟨_, s2, e1, h⟩ := bnd h
          obtain ⟨k2, d2, -⟩ := take_ok (by decide) e1
          obtain ⟨_, s3, e2, h⟩ := bnd h
          obtain ⟨k3, d3, -⟩ := take_ok (by decide) e2
          obtain ⟨u, s4, e3, h⟩ := bnd h
          obtain ⟨u1, k4, d4⟩ := name_ok ((k2.trans k3).al hs) e3
          obtain ⟨_, s5, e4, h⟩ := bnd h
          obtain ⟨k5, d5, -⟩ := take_ok (by decide) e4
          injection h with h1 h2
          subst h1 h2
          exact prim_leaf (by omega) (.has u1) hd20 (by omega) ((k2.trans (k3.trans (k4.trans k5))).le (by rw [sz_leaf]; omega))
        · split at h
          · rename_i hb
            have k1 := nx_kr (s := s) (.inr (builtIn_ne hb))
            obtain ⟨l, s2, e1, h⟩ := bnd h
            obtain ⟨l1, l2, l3, l4⟩ := I.args (nx s) (k1.al hs) hd20 l s2 e1
            injection h with h1 h2
            subst h1 h2
            refine ⟨.call (.inl hb) fun x hx => (l1 x hx).1, ?_, l3, (k1.trans l4).le (by rw [sz_mk]; omega)⟩
            have l2' : s.de + 1 ≤ 20 := l2
            have := (nEs_max (20 - (s.de + 1)) l).1 fun x hx => by
              have := (l1 x hx).2
              have e : (nx s).de = s.de := rfl
              omega
            rw [opE_7 (by decide) _ _ _ _ _ (by omega), nE_call]
            omega
          · obtain ⟨nn, s2, e1, h⟩ := bnd h
            obtain ⟨u, a, -, hu, hn, k1, d1, -⟩ := nameNode_ok hs e1
            rw [hu] at hn
            split at h
            · obtain ⟨l, s3, e2, h⟩ := bnd h
              obtain ⟨l1, l2, l3, l4⟩ := I.args s2 (k1.al hs) (by omega) l s3 e2
              injection h with h1 h2
              subst h1 h2
              refine ⟨.call (.inr hn) fun x hx => (l1 x hx).1, ?_, by omega, (k1.trans l4).le (by rw [sz_mk]; omega)⟩
              have := (nEs_max (20 - (s.de + 1)) l).1 fun x hx => by
                have := (l1 x hx).2
                omega
              rw [opE_7 (by decide) _ _ _ _ _ (by omega), nE_call]
              omega
            · split at h
              · rename_i hdot
                have k2 := nx_kr (s := s2) (.inr (by rw [isAt_eq hdot]; decide))
                obtain ⟨f, s3, e2, h⟩ := bnd h
                obtain ⟨v, b, rfl, -, hv, k3, d3, -⟩ := nameNode_ok ((k1.trans k2).al hs) e2
                injection h with h1 h2
                subst h1 h2
                have d3' : s3.de = s2.de := d3
                exact prim_leaf (by omega) (.field hn hv) hd20 (by omega) ((k1.trans (k2.trans k3)).le (by simp only [sz_mk, szs]; omega))
              · injection h with h1 h2
                subst h1 h2
                exact prim_leaf (by omega) (.name hn) hd20 d1 (k1.le (by rw [sz_leaf]; omega))
theorem args_ge {ws : List ByteArray} {n : Nat} (I : AllE ws n) : ∀ s, Al s → s.de ≤ 20 → ∀ l s1, Yn.args ws (n + 1) s = .ok l s1 → (∀ x ∈ l, ShE ws x ∧ s.de + 1 + nE x ≤ 20) ∧ s.de + 1 ≤ 20 ∧ s1.de = s.de ∧ Kr s s1 (szs l) := by
  intro s hs hd20 l s1 h
  rw [Yn.args] at h
  obtain ⟨_, s2, e1, h⟩ := bnd h
  obtain ⟨k2, d2, n2, -⟩ := open_ok (by decide) e1
  obtain ⟨m, s3, e2, h⟩ := bnd h
  obtain ⟨_, s4, e3, h⟩ := bnd h
  obtain ⟨k4, d4, -⟩ := take_ok (by decide) e3
  injection h with h1 h2
  subst h1 h2
  split at e2
  · injection e2 with h1 h2
    subst h1 h2
    exact ⟨(by intro x hx; cases hx), by omega, by show s4.de - 1 = s.de; omega, Kr.leave ((k2.trans k4).le (by rw [szs]; omega))⟩
  · obtain ⟨x, s5, e4, e2⟩ := bnd e2
    obtain ⟨x1, x2, x3, x4⟩ := I.cond s2 (k2.al hs) (by omega) x s5 e4
    obtain ⟨m1, m2, k, m3, m4⟩ := I.conds [x] s5 ((k2.trans x4).al hs) (by omega) (by
      intro y hy
      rw [List.mem_singleton] at hy
      subst hy
      exact ⟨x1, by omega⟩) m s3 e2
    refine ⟨fun y hy => ⟨(m1 y hy).1, by have := (m1 y hy).2; omega⟩, by omega, by show s4.de - 1 = s.de; omega, Kr.leave ((k2.trans (x4.trans (m3.trans k4))).le ?_)⟩
    rw [szs_one] at m4
    omega
theorem conds_ge {ws : List ByteArray} {n : Nat} (I : AllE ws n) : ∀ l s, Al s → s.de ≤ 20 → (∀ x ∈ l, ShE ws x ∧ s.de + nE x ≤ 20) → ∀ m s1, Yn.conds ws (n + 1) l s = .ok m s1 → (∀ x ∈ m, ShE ws x ∧ s.de + nE x ≤ 20) ∧ s1.de = s.de ∧ ∃ k, Kr s s1 k ∧ szs m ≤ szs l + k := by
  intro l s hs hd20 hl m s1 h
  rw [Yn.conds] at h
  split at h
  · rename_i hc
    have k1 := nx_kr (s := s) (.inr (by rw [isAt_eq hc]; decide))
    obtain ⟨x, s2, e1, h⟩ := bnd h
    obtain ⟨x1, x2, x3, x4⟩ := I.cond (nx s) (k1.al hs) hd20 x s2 e1
    have x2' : s.de + nE x ≤ 20 := x2
    have x3' : s2.de = s.de := x3
    obtain ⟨m1, m2, k, m3, m4⟩ := I.conds (l ++ [x]) s2 ((k1.trans x4).al hs) (by omega) (by
      intro y hy
      rw [x3']
      rcases List.mem_append.1 hy with hy | hy
      · exact hl y hy
      · rw [List.mem_singleton] at hy
        subst hy
        exact ⟨x1, x2'⟩) m s1 h
    refine ⟨fun y hy => ⟨(m1 y hy).1, by have := (m1 y hy).2; omega⟩, by omega, 1 + (sz x + k), k1.trans (x4.trans m3), ?_⟩
    rw [szs_app, szs_one] at m4
    omega
  · injection h with h1 h2
    subst h1 h2
    exact ⟨hl, rfl, 0, Kr.refl s, by omega⟩
theorem allE (ws : List ByteArray) : ∀ n, AllE ws n
  | 0 => allE_zero ws
  | n + 1 => have I := allE ws n; ⟨cond_ge I, binary_ge I, binL_ge I, unary_ge I, primary_ge I, args_ge I, conds_ge I⟩
end Go.Proofs.YtmfoehaeejhlpaaGreatDoor.Yn
