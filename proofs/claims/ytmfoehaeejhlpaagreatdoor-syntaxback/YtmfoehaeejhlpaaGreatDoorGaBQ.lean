import Derived.Test.YtmfoehaeejhlpaaGreatDoorGaBP
/-
  What is read is well formed, and may be written.
-/
namespace Go.Proofs.YtmfoehaeejhlpaaGreatDoor
open Go.RowKit Yn
set_option maxRecDepth 100000
theorem len_szs : ∀ l : List Tree, l.length ≤ szs l
  | [] => Nat.zero_le _
  | t :: ts => by
    have := len_szs ts
    have := sz_pos t
    rw [szs, List.length_cons]
    omega
theorem wfTs_of {b : Nat} : ∀ {l : List Tree}, (∀ x ∈ l, wfT x b) → wfTs l b
  | [], _ => by rw [wfTs]; trivial
  | t :: ts, h => by
    rw [wfTs]
    exact ⟨h t (List.mem_cons_self ..), wfTs_of fun x hx => h x (List.mem_cons_of_mem _ hx)⟩
theorem word_lex {t : ByteArray} (h : Wrd t) : lxS t = .ok [⟨1, t, 0⟩, ⟨0, bs [], t.size⟩] := by
  have h16 := h.2.2
  have hz := Le.bt_z t
  have hl : t.data.toList.length = t.size := rfl
  have eb : bys [wd t] = t.data.toList := bys_one _
  have hx : Le.lexS t = .ok [⟨1, 0, t.size⟩, ⟨0, t.size, t.size⟩] := by
    have := lx_wd h (Le.bt t) t.size 0 hz (fun i hi => by
      rw [eb] at hi
      unfold Le.bt
      rw [Nat.zero_add, List.getD_eq_getElem?_getD, List.getElem?_eq_getElem hi]
      simp only [eb]
      rfl) (by rw [eb]; omega) (by
      rw [eb, Nat.zero_add]
      show Le.isWo (Le.bt t t.data.toList.length) = false
      rw [hl, hz _ (Nat.le_refl _)]
      rfl)
    unfold Le.lexS
    rw [this, eb, Nat.zero_add, hl, Le.lexA_fin hz]
    show Le.Rs.ok _ = _
    have e : Yn.tkP 0 [wd t] = [⟨1, 0, t.size⟩] := by
      rw [Yn.tkP, Yn.tkP, Nat.zero_add]
      rfl
    rw [e]
    rfl
  unfold lxS
  rw [if_pos (by omega), hx]
  have e1 : t.extract 0 t.size = t := by simp
  have e2 : t.extract t.size t.size = bs [] := by
    apply ByteArray.ext
    simp [bs]
  simp only [List.map_cons, List.map_nil, tokOf, e1, e2]
theorem nm_ok {t : ByteArray} (h : Nm wsB t) : nmOk t := ⟨⟨_, _, word_lex h.1, rfl, rfl⟩, h.2⟩
theorem wf_e {x : Tree} (h : ShE wsB x) : ∀ b, b ≤ 20 → sz x ≤ 1048576 → wfT x b := by
  have rng : ∀ y, ShE wsB y → 30 ≤ opT y ∧ opT y ≤ 38 := by
    intro y hy
    cases hy <;> exact ⟨by simp [opT], by simp [opT]⟩
  have r13 : ∀ y, ShE wsB y → tkP 13 (opT y) (txT y) := fun y hy => by
    have := rng y hy
    unfold tkP
    omega
  induction h with
  | num h1 h2 =>
    intro b hb hz
    rw [wfT]
    refine ⟨by simpa [bkN] using hb, by simp [txOk], fun _ => h1, by decide, by decide, (by intro i hi; cases hi), by rw [wfTs]; trivial⟩
  | name h1 =>
    intro b hb hz
    rw [wfT]
    exact ⟨by simpa [bkN] using hb, .inl ⟨by omega, nm_ok h1⟩, (by intro e; cases e), by decide, by decide, (by intro i hi; cases hi), by rw [wfTs]; trivial⟩
  | field h1 h2 =>
    intro b hb hz
    rw [wfT]
    refine ⟨by simpa [bkN] using hb, .inl ⟨by omega, nm_ok h1⟩, (by intro e; cases e), by simp [fsL], by simp, fun i hi => ?_, ?_⟩
    · have : i = 0 := by simpa using hi
      subst this
      exact .inr (.inr (.inr (.inr (.inr (.inr (.inl ⟨rfl, rfl⟩))))))
    · rw [wfTs, wfTs, wfT]
      exact ⟨⟨by simpa [bkN] using hb, .inl ⟨by omega, nm_ok h2⟩, (by intro e; cases e), by decide, by decide, (by intro i hi; cases hi), by rw [wfTs]; trivial⟩, trivial⟩
  | @bin t x y a hb1 hx hy ihx ihy =>
    intro b hb hz
    simp only [sz_mk, szs] at hz
    rw [wfT]
    refine ⟨by simpa [bkN] using hb, .inr (.inr (.inl ⟨rfl, by omega⟩)), (by intro e; cases e), by simp [fsL], by simp, fun i hi => ?_, ?_⟩
    · have hi' : i < 2 := hi
      match i, hi' with
      | 0, _ => exact r13 x hx
      | 1, _ => exact r13 y hy
    · have e : bkN 33 b = b := rfl
      rw [e, wfTs, wfTs, wfTs]
      exact ⟨ihx b hb (by omega), ihy b hb (by omega), trivial⟩
  | @un t x a h1 hx ihx =>
    intro b hb hz
    simp only [sz_mk, szs] at hz
    rw [wfT]
    refine ⟨by simpa [bkN] using hb, ?_, (by intro e; cases e), by simp [fsL], by simp, fun i hi => ?_, ?_⟩
    · rcases h1 with e | e
      · exact .inr (.inr (.inr (.inl ⟨rfl, e⟩)))
      · exact .inr (.inr (.inr (.inr (.inl ⟨rfl, e⟩))))
    · have hi' : i < 1 := hi
      match i, hi' with
      | 0, _ => exact r13 x hx
    · have e : bkN 34 b = b := rfl
      rw [e, wfTs, wfTs]
      exact ⟨ihx b hb (by omega), trivial⟩
  | @con x y z a hx hy hz ihx ihy ihz =>
    intro b hb hs
    simp only [sz_mk, szs] at hs
    rw [wfT]
    refine ⟨by simpa [bkN] using hb, by simp [txOk], (by intro e; cases e), by simp [fsL], by simp, fun i hi => ?_, ?_⟩
    · have hi' : i < 3 := hi
      match i, hi' with
      | 0, _ => exact r13 x hx
      | 1, _ => exact r13 y hy
      | 2, _ => exact r13 z hz
    · have e : bkN 35 b = b := rfl
      rw [e, wfTs, wfTs, wfTs, wfTs]
      exact ⟨ihx b hb (by omega), ihy b hb (by omega), ihz b hb (by omega), trivial⟩
  | @call t l a h1 h2 ih =>
    intro b hb hz
    rw [sz_mk] at hz
    have hl := len_szs l
    rw [wfT]
    refine ⟨by simpa [bkN] using hb, ?_, (by intro e; cases e), by simp [fsL], by omega, fun i hi => ?_, ?_⟩
    · cases hbi : isBuiltIn t with
      | true => exact .inr (.inr (.inr (.inr (.inr (.inl ⟨rfl, hbi⟩)))))
      | false =>
        rcases h1 with h | h
        · rw [h] at hbi; cases hbi
        · exact .inr (.inr (.inr (.inr (.inr (.inr (.inl ⟨rfl, hbi, nm_ok h⟩))))))
    · have e : roleAt 36 i = 13 := by simp [roleAt, fsL, peR, maR]
      rw [e]
      exact r13 _ (h2 _ (List.getElem_mem _))
    · exact wfTs_of fun x hx => ih x hx b hb (by have := szs_le hx; omega)
  | has h1 =>
    intro b hb hz
    rw [wfT]
    exact ⟨by simpa [bkN] using hb, .inl ⟨by omega, nm_ok h1⟩, (by intro e; cases e), by decide, by decide, (by intro i hi; cases hi), by rw [wfTs]; trivial⟩
  | word h1 =>
    intro b hb hz
    rw [wfT]
    refine ⟨by simpa [bkN] using hb, ?_, (by intro e; cases e), by decide, by decide, (by intro i hi; cases hi), by rw [wfTs]; trivial⟩
    rcases h1 with e | e
    · exact .inr (.inr (.inr (.inr (.inr (.inr (.inr (.inl ⟨rfl, e⟩)))))))
    · exact .inr (.inr (.inr (.inr (.inr (.inr (.inr (.inr (.inl ⟨rfl, e⟩))))))))
theorem okEs_of : ∀ {l : List Tree}, (∀ x ∈ l, okE x) → okEs l
  | [], _ => by rw [okEs]; trivial
  | t :: ts, h => by
    rw [okEs]
    exact ⟨h t (List.mem_cons_self ..), okEs_of fun x hx => h x (List.mem_cons_of_mem _ hx)⟩
theorem ok_e {x : Tree} (h : ShE wsB x) : sz x ≤ 1048576 → okE x := by
  induction h with
  | num h1 h2 => intro hz; rw [okE]; exact ⟨fun _ => ⟨by omega, h2⟩, by omega, by omega, by omega, by decide, by rw [okEs]; trivial⟩
  | name h1 => intro hz; rw [okE]; exact ⟨by omega, by omega, by omega, by omega, by decide, by rw [okEs]; trivial⟩
  | field h1 h2 =>
    intro hz
    rw [okE, okEs, okEs, okE, okEs]
    exact ⟨by omega, by simp, by omega, by omega, by simp, ⟨by omega, by omega, by omega, by omega, by simp, trivial⟩, trivial⟩
  | bin hb hx hy ihx ihy =>
    intro hz
    simp only [sz_mk, szs] at hz
    rw [okE, okEs, okEs, okEs]
    exact ⟨by omega, by omega, by simp, by omega, by simp, ihx (by omega), ihy (by omega), trivial⟩
  | un h1 hx ihx =>
    intro hz
    simp only [sz_mk, szs] at hz
    rw [okE, okEs, okEs]
    exact ⟨by omega, by simp, by omega, by omega, by simp, ihx (by omega), trivial⟩
  | con hx hy hz ihx ihy ihz =>
    intro hs
    simp only [sz_mk, szs] at hs
    rw [okE, okEs, okEs, okEs, okEs]
    exact ⟨by omega, by omega, by omega, by simp, by simp, ihx (by omega), ihy (by omega), ihz (by omega), trivial⟩
  | @call t l a h1 h2 ih =>
    intro hz
    rw [sz_mk] at hz
    have hl := len_szs l
    rw [okE]
    exact ⟨by omega, by omega, by omega, by omega, by omega, okEs_of fun x hx => ih x hx (by have := szs_le hx; omega)⟩
  | has h1 => intro hz; rw [okE]; exact ⟨by omega, by omega, by omega, by omega, by decide, by rw [okEs]; trivial⟩
  | word h1 => intro hz; rw [okE]; exact ⟨by omega, by omega, by omega, by omega, by decide, by rw [okEs]; trivial⟩
theorem ew_of {x : Tree} {d : Nat} (h : Ex wsB d x) (hz : sz x ≤ 1048576) : EW x := expr_w x (ok_e h.1 hz)
theorem pw_of {p : Tree} {d : Nat} (h : Pt wsB d p) (hz : sz p ≤ 1048576) : PW p := by
  obtain ⟨e, t, l, a, -, rfl, ht, hl⟩ := h
  rw [sz_mk] at hz
  have hll := len_szs l
  refine part_w (fun i hi => ?_) (by omega)
  obtain ⟨u, x, b, ev, hu, hx⟩ := hl _ (List.getElem_mem hi)
  have := szs_le (List.getElem_mem hi)
  rw [ev] at this ⊢
  rw [sz_mk, szs_one] at this
  have k := ew_of hx (by omega)
  exact ⟨by simp [lsT], k⟩
theorem sw_of {t : Tree} {d : Nat} (h : OkS wsB d t) (ho : opT t ≠ 13 ∧ opT t ≠ 14 ∧ opT t ≠ 15 ∧ opT t ≠ 5) (hz : sz t ≤ 1048576) : SW t := by
  cases h with
  | lett h1 h2 => simp only [sz_mk, szs] at hz; have k := ew_of h2 (by omega); exact sm10 (by simp) k
  | set h1 h2 => simp only [sz_mk, szs] at hz; have k := ew_of h2 (by omega); exact sm11 (by simp) k
  | setf h1 h2 h3 => simp only [sz_mk, szs] at hz; have k := ew_of h3 (by omega); exact sm12 (by simp) k
  | if2 => exact absurd rfl ho.1
  | if3 => exact absurd rfl ho.1
  | loop h1 =>
    rcases h1 with rfl | rfl
    · exact absurd rfl ho.2.1
    · exact absurd rfl ho.2.2.1
  | @emit d x y a h1 h2 =>
    simp only [sz_mk, szs] at hz
    refine sm16 (fun i hi => ?_) (by simp)
    have hi' : i < 2 := hi
    match i, hi' with
    | 0, _ => exact ew_of (x := x) h1 (by omega)
    | 1, _ => exact ew_of (x := y) h2 (by omega)
  | @spawn d l a h1 =>
    rw [sz_mk] at hz
    have hll := len_szs l
    exact sm17 (fun i hi => pw_of (h1 _ (List.getElem_mem hi)) (by have := szs_le (List.getElem_mem hi); omega)) (by omega)
  | @add d p a h1 =>
    simp only [sz_mk, szs] at hz
    refine sm18 (fun i hi => ?_) (by simp)
    have hi' : i < 1 := hi
    match i, hi' with
    | 0, _ => exact pw_of (p := p) h1 (by omega)
  | remove h1 => exact sm19
  | leaf h1 =>
    rcases h1 with rfl | rfl
    · exact sm20
    · exact sm21
  | ret h1 => simp only [sz_mk, szs] at hz; have k := ew_of h1 (by omega); exact sm22 (by simp) k
  | block => exact absurd rfl ho.2.2.2
theorem ok_s : ∀ f : Nat, (∀ d t, OkS wsB d t → (10 ≤ opn t ∧ opn t ≤ 22) → 2 * sz t + 1 ≤ f → sz t ≤ 1048576 → okSt f t) ∧ (∀ d t, OkS wsB d t → opn t = 13 → 2 * sz t ≤ f → sz t ≤ 1048576 → okBr f t) ∧ (∀ d t, OkS wsB d t → opn t = 5 → 2 * sz t ≤ f → sz t ≤ 1048576 → okBk f t)
  | 0 => ⟨fun d t _ _ h => by omega, fun d t _ _ h => by have := sz_pos t; omega, fun d t _ _ h => by have := sz_pos t; omega⟩
  | f + 1 => by
    obtain ⟨i1, i2, i3⟩ := ok_s f
    refine ⟨fun d t h ho hf hz => ?_, fun d t h ho hf hz => ?_, fun d t h ho hf hz => ?_⟩
    · rw [okSt, opT_opn]
      by_cases h13 : opn t = 13
      · rw [if_pos h13]
        exact i2 d t h h13 (by omega) hz
      · rw [if_neg h13]
        by_cases h14 : opn t = 14 ∨ opn t = 15
        · rw [if_pos h14]
          cases h with
          | @loop d op c b a h0 h1 h2 h3 =>
            simp only [sz_mk, szs] at hf hz
            exact ⟨by simp [lsT], ew_of (x := c) h1 (by omega), i3 d b h2 h3 (by omega) (by omega)⟩
          | lett => exact absurd h14 (by simp [opn])
          | set => exact absurd h14 (by simp [opn])
          | setf => exact absurd h14 (by simp [opn])
          | if2 => exact absurd h14 (by simp [opn])
          | if3 => exact absurd h14 (by simp [opn])
          | emit => exact absurd h14 (by simp [opn])
          | spawn => exact absurd h14 (by simp [opn])
          | add => exact absurd h14 (by simp [opn])
          | remove => exact absurd h14 (by simp [opn])
          | leaf h1 => exact absurd h14 (by rcases h1 with rfl | rfl <;> simp [opn])
          | ret => exact absurd h14 (by simp [opn])
          | block => exact absurd h14 (by simp [opn])
        · rw [if_neg h14]
          exact sw_of h (by rw [opT_opn]; omega) hz
    · rw [okBr]
      cases h with
      | @if2 d c b a h1 h2 h3 =>
        simp only [sz_mk, szs] at hf hz
        exact ⟨⟨by simp [lsT], ew_of (x := c) h1 (by omega), i3 d b h2 h3 (by omega) (by omega)⟩, .inl rfl⟩
      | @if3 d c b x a h1 h2 h3 h4 h5 =>
        simp only [sz_mk, szs] at hf hz
        refine ⟨⟨by simp [lsT], ew_of (x := c) h1 (by omega), i3 d b h2 h3 (by omega) (by omega)⟩, .inr ⟨by simp [lsT], ?_⟩⟩
        show if opT x = 13 then okBr f x else okBk f x
        rw [opT_opn]
        by_cases h13 : opn x = 13
        · rw [if_pos h13]
          exact i2 d x h4 h13 (by omega) (by omega)
        · rw [if_neg h13]
          exact i3 d x h4 (h5.resolve_right h13) (by omega) (by omega)
      | lett => exact absurd ho (by simp [opn])
      | set => exact absurd ho (by simp [opn])
      | setf => exact absurd ho (by simp [opn])
      | loop h1 => exact absurd ho (by rcases h1 with rfl | rfl <;> simp [opn])
      | emit => exact absurd ho (by simp [opn])
      | spawn => exact absurd ho (by simp [opn])
      | add => exact absurd ho (by simp [opn])
      | remove => exact absurd ho (by simp [opn])
      | leaf h1 => exact absurd ho (by rcases h1 with rfl | rfl <;> simp [opn])
      | ret => exact absurd ho (by simp [opn])
      | block => exact absurd ho (by simp [opn])
    · rw [okBk]
      cases h with
      | @block d l a h1 h2 =>
        rw [sz_mk] at hf hz
        have hl := len_szs l
        refine ⟨by simp only [lsT]; omega, fun i hi => ?_⟩
        have hi' : i < l.length := hi
        have := szs_le (List.getElem_mem hi')
        exact i1 d l[i] (h1 _ (List.getElem_mem hi')) (h2 _ (List.getElem_mem hi')) (by omega) (by omega)
      | lett => exact absurd ho (by simp [opn])
      | set => exact absurd ho (by simp [opn])
      | setf => exact absurd ho (by simp [opn])
      | if2 => exact absurd ho (by simp [opn])
      | if3 => exact absurd ho (by simp [opn])
      | loop h1 => exact absurd ho (by rcases h1 with rfl | rfl <;> simp [opn])
      | emit => exact absurd ho (by simp [opn])
      | spawn => exact absurd ho (by simp [opn])
      | add => exact absurd ho (by simp [opn])
      | remove => exact absurd ho (by simp [opn])
      | leaf h1 => exact absurd ho (by rcases h1 with rfl | rfl <;> simp [opn])
      | ret => exact absurd ho (by simp [opn])
theorem mw_of {x : Tree} (h : OkM wsB x) {f : Nat} (hf : 2 * sz x ≤ f) (hf2 : f ≤ 1000000) (hz : sz x ≤ 1048576) : MW f x := by
  have cw : ∀ w c, OkC wsB w c → sz c ≤ 1048576 → CW c := by
    rintro w c ⟨l, a, rfl, -⟩ hc
    rw [sz_mk] at hc
    have := len_szs l
    exact clause_w (by omega)
  cases h with
  | @sys t c0 c1 c2 c3 b a h1 o0 o1 o2 o3 h2 h3 =>
    simp only [sz_mk, szs] at hf hz
    refine member_s (by simp) (fun i hi h4 => ?_) ((all_w f).2.2 b 0 (by omega) ((ok_s f).2.2 20 b h2 h3 (by omega) (by omega)))
    match i, h4 with
    | 0, _ => exact cw _ c0 o0 (by omega)
    | 1, _ => exact cw _ c1 o1 (by omega)
    | 2, _ => exact cw _ c2 o2 (by omega)
    | 3, _ => exact cw _ c3 o3 (by omega)
  | @fn t l b a a1 h1 h2 h3 h4 h5 =>
    simp only [sz_mk, szs] at hf hz
    exact member_f (by decide) (by simp) (by simp only [List.getElem_cons_zero, lsT]; omega) ((all_w f).2.2 b 0 (by omega) ((ok_s f).2.2 20 b h4 h5 (by omega) (by omega)))
end Go.Proofs.YtmfoehaeejhlpaaGreatDoor

/-
  What is read is well formed: statements, programs; how long what is written is.
-/
namespace Go.Proofs.YtmfoehaeejhlpaaGreatDoor
open Go.RowKit Yn
set_option maxRecDepth 100000
mutual
theorem sz_szT : ∀ t : Tree, szT t = sz t
  | .mk op t n l a => by rw [szT, sz, szs_szTs l]
theorem szs_szTs : ∀ l : List Tree, szTs l = szs l
  | [] => by rw [szTs, szs]
  | t :: ts => by rw [szTs, szs, sz_szT t, szs_szTs ts]
end
theorem r_e {ws : List ByteArray} {y : Tree} (hy : ShE ws y) : Go.Proofs.YtmfoehaeejhlpaaGreatDoor.tkP 13 (opT y) (txT y) := by
  have : 30 ≤ opT y ∧ opT y ≤ 38 := by cases hy <;> exact ⟨by simp [opT], by simp [opT]⟩
  unfold Go.Proofs.YtmfoehaeejhlpaaGreatDoor.tkP
  omega
theorem wf_n {x : Tree} (h : Nn wsB x) : ∀ b, b ≤ 20 → wfT x b := by
  obtain ⟨t, a, rfl, ht⟩ := h
  intro b hb
  rw [wfT]
  exact ⟨by simpa [bkN] using hb, .inl ⟨by omega, nm_ok ht⟩, (by intro e; cases e), by decide, by decide, (by intro i hi; cases hi), by rw [wfTs]; trivial⟩
theorem wf_v {x : Tree} {d : Nat} (h : Vl wsB d x) : ∀ b, b ≤ 20 → sz x ≤ 1048576 → wfT x b := by
  obtain ⟨t, y, a, rfl, ht, hy⟩ := h
  intro b hb hz
  simp only [sz_mk, szs] at hz
  rw [wfT]
  refine ⟨by simpa [bkN] using hb, .inl ⟨by omega, nm_ok ht⟩, (by intro e; cases e), by simp [fsL], by simp, fun i hi => ?_, ?_⟩
  · have hi' : i < 1 := hi
    match i, hi' with
    | 0, _ => exact r_e hy.1
  · have e : bkN 24 b = b := rfl
    rw [e, wfTs, wfTs]
    exact ⟨wf_e hy.1 b hb (by omega), trivial⟩
theorem wf_p {x : Tree} {d : Nat} (h : Pt wsB d x) : ∀ b, b ≤ 20 → sz x ≤ 1048576 → wfT x b := by
  obtain ⟨e, t, l, a, -, rfl, ht, hl⟩ := h
  intro b hb hz
  rw [sz_mk] at hz
  have hll := len_szs l
  rw [wfT]
  refine ⟨by simpa [bkN] using hb, .inl ⟨by omega, nm_ok ht⟩, (by intro e; cases e), by simp [fsL], by omega, fun i hi => ?_, wfTs_of fun x hx => wf_v (hl x hx) b hb (by have := szs_le hx; omega)⟩
  have er : roleAt 23 i = 12 := by simp [roleAt, fsL, peR, maR]
  rw [er]
  obtain ⟨u, y, a, ev, -, -⟩ := hl _ (List.getElem_mem hi)
  rw [ev]
  unfold Go.Proofs.YtmfoehaeejhlpaaGreatDoor.tkP
  simp [opT]
theorem role_p {ws : List ByteArray} {d : Nat} {x : Tree} (h : Pt ws d x) : Go.Proofs.YtmfoehaeejhlpaaGreatDoor.tkP 11 (opT x) (txT x) := by
  obtain ⟨e, t, l, a, -, rfl, -, -⟩ := h
  unfold Go.Proofs.YtmfoehaeejhlpaaGreatDoor.tkP
  simp [opT]
theorem role_5 {x : Tree} (h : opn x = 5) : Go.Proofs.YtmfoehaeejhlpaaGreatDoor.tkP 8 (opT x) (txT x) := by
  rw [← opT_opn] at h
  unfold Go.Proofs.YtmfoehaeejhlpaaGreatDoor.tkP
  rw [h]
  omega
theorem wf_s {x : Tree} {d : Nat} (h : OkS wsB d x) : ∀ b, b + d ≤ 20 → sz x ≤ 1048576 → wfT x b := by
  have one : ∀ (op : Nat) (t : ByteArray) (y : Tree) (a b e : Nat), op ≠ 5 → op ≠ 30 → txOk op t → fsL op = [13] → Ex wsB e y → b ≤ 20 → sz y ≤ 1048576 → wfT (.mk op t 0 [y] a) b := by
    intro op t y a b e h5 h30 ht hf hy hb hz
    have eb : bkN op b = b := if_neg h5
    rw [wfT, eb]
    refine ⟨hb, ht, fun e => absurd e h30, by rw [hf]; simp, by simp, fun i hi => ?_, ?_⟩
    · have hi' : i < 1 := hi
      match i, hi' with
      | 0, _ =>
        have : roleAt op 0 = 13 := by
          unfold roleAt
          rw [hf]
          rfl
        rw [this]
        exact r_e hy.1
    · rw [wfTs, wfTs]
      exact ⟨wf_e hy.1 b hb hz, trivial⟩
  induction h with
  | @lett d t y a h1 h2 => intro b hb hz; simp only [sz_mk, szs] at hz; exact one 10 t y a b d (by decide) (by decide) (.inl ⟨by omega, nm_ok h1⟩) rfl h2 (by omega) (by omega)
  | @set d t y a h1 h2 => intro b hb hz; simp only [sz_mk, szs] at hz; exact one 11 t y a b d (by decide) (by decide) (.inl ⟨by omega, nm_ok h1⟩) rfl h2 (by omega) (by omega)
  | @ret d y a h1 => intro b hb hz; simp only [sz_mk, szs] at hz; exact one 22 (bs []) y a b d (by decide) (by decide) (by simp [txOk]) rfl h1 (by omega) (by omega)
  | @setf d t f y a h1 h2 h3 =>
    intro b hb hz
    simp only [sz_mk, szs] at hz
    rw [wfT]
    refine ⟨by simp [bkN]; omega, .inl ⟨by omega, nm_ok h1⟩, (by intro e; cases e), by simp [fsL], by simp, fun i hi => ?_, ?_⟩
    · have hi' : i < 2 := hi
      match i, hi' with
      | 0, _ =>
        obtain ⟨u, c, rfl, -⟩ := h2
        exact .inr (.inr (.inr (.inr (.inr (.inr (.inl ⟨rfl, rfl⟩))))))
      | 1, _ => exact r_e h3.1
    · have e : bkN 12 b = b := rfl
      rw [e, wfTs, wfTs, wfTs]
      exact ⟨wf_n h2 b (by omega), wf_e h3.1 b (by omega) (by omega), trivial⟩
  | @if2 d c k a h1 h2 h3 ih =>
    intro b hb hz
    simp only [sz_mk, szs] at hz
    rw [wfT]
    refine ⟨by simp [bkN]; omega, by simp [txOk], (by intro e; cases e), by simp [fsL], by simp, fun i hi => ?_, ?_⟩
    · have hi' : i < 2 := hi
      match i, hi' with
      | 0, _ => exact r_e h1.1
      | 1, _ => exact role_5 h3
    · have e : bkN 13 b = b := rfl
      rw [e, wfTs, wfTs, wfTs]
      exact ⟨wf_e h1.1 b (by omega) (by omega), ih b hb (by omega), trivial⟩
  | @if3 d c k x a h1 h2 h3 h4 h5 ih1 ih2 =>
    intro b hb hz
    simp only [sz_mk, szs] at hz
    rw [wfT]
    refine ⟨by simp [bkN]; omega, by simp [txOk], (by intro e; cases e), by simp [fsL], by simp, fun i hi => ?_, ?_⟩
    · have hi' : i < 3 := hi
      match i, hi' with
      | 0, _ => exact r_e h1.1
      | 1, _ => exact role_5 h3
      | 2, _ =>
        rw [← opT_opn] at h5
        exact .inr (.inr (.inr (.inr (.inr (.inr (.inr (.inr (.inr (.inl ⟨rfl, h5⟩)))))))))
    · have e : bkN 13 b = b := rfl
      rw [e, wfTs, wfTs, wfTs, wfTs]
      exact ⟨wf_e h1.1 b (by omega) (by omega), ih1 b hb (by omega), ih2 b hb (by omega), trivial⟩
  | @loop d op c k a h0 h1 h2 h3 ih =>
    intro b hb hz
    simp only [sz_mk, szs] at hz
    rw [wfT]
    have e : bkN op b = b := if_neg (by omega)
    rw [e]
    rcases h0 with rfl | rfl
    all_goals
      refine ⟨by omega, by simp [txOk], (by intro e; cases e), by simp [fsL], by simp, fun i hi => ?_, ?_⟩
      · have hi' : i < 2 := hi
        match i, hi' with
        | 0, _ => exact r_e h1.1
        | 1, _ => exact role_5 h3
      · rw [wfTs, wfTs, wfTs]
        exact ⟨wf_e h1.1 b (by omega) (by omega), ih b hb (by omega), trivial⟩
  | @emit d x y a h1 h2 =>
    intro b hb hz
    simp only [sz_mk, szs] at hz
    rw [wfT]
    refine ⟨by simp [bkN]; omega, by simp [txOk], (by intro e; cases e), by simp [fsL], by simp, fun i hi => ?_, ?_⟩
    · have hi' : i < 2 := hi
      match i, hi' with
      | 0, _ => exact r_e h1.1
      | 1, _ => exact r_e h2.1
    · have e : bkN 16 b = b := rfl
      rw [e, wfTs, wfTs, wfTs]
      exact ⟨wf_e h1.1 b (by omega) (by omega), wf_e h2.1 b (by omega) (by omega), trivial⟩
  | @spawn d l a h1 =>
    intro b hb hz
    rw [sz_mk] at hz
    have hll := len_szs l
    rw [wfT]
    refine ⟨by simp [bkN]; omega, by simp [txOk], (by intro e; cases e), by simp [fsL], by omega, fun i hi => ?_, wfTs_of fun x hx => wf_p (h1 x hx) b (by omega) (by have := szs_le hx; omega)⟩
    have er : roleAt 17 i = 11 := by simp [roleAt, fsL, peR, maR]
    rw [er]
    exact role_p (h1 _ (List.getElem_mem hi))
  | @add d p a h1 =>
    intro b hb hz
    simp only [sz_mk, szs] at hz
    rw [wfT]
    refine ⟨by simp [bkN]; omega, by simp [txOk], (by intro e; cases e), by simp [fsL], by simp, fun i hi => ?_, ?_⟩
    · have hi' : i < 1 := hi
      match i, hi' with
      | 0, _ => exact role_p h1
    · have e : bkN 18 b = b := rfl
      rw [e, wfTs, wfTs]
      exact ⟨wf_p h1 b (by omega) (by omega), trivial⟩
  | @remove d t a h1 =>
    intro b hb hz
    rw [wfT]
    exact ⟨by simp [bkN]; omega, .inl ⟨by omega, nm_ok h1⟩, (by intro e; cases e), by decide, by decide, (by intro i hi; cases hi), by rw [wfTs]; trivial⟩
  | @leaf d op a h1 =>
    intro b hb hz
    rw [wfT]
    rcases h1 with rfl | rfl
    all_goals exact ⟨by simp [bkN]; omega, by simp [txOk], (by intro e; cases e), by decide, by decide, (by intro i hi; cases hi), by rw [wfTs]; trivial⟩
  | @block d l a h1 h2 ih =>
    intro b hb hz
    rw [sz_mk] at hz
    have hll := len_szs l
    have e : bkN 5 b = b + 1 := rfl
    rw [wfT, e]
    refine ⟨by omega, by simp [txOk], (by intro e; cases e), by simp [fsL], by omega, fun i hi => ?_, wfTs_of fun x hx => ih x hx (b + 1) (by omega) (by have := szs_le hx; omega)⟩
    have er : roleAt 5 i = 9 := by simp [roleAt, fsL, peR, maR]
    rw [er]
    have := h2 _ (List.getElem_mem hi)
    rw [← opT_opn] at this
    unfold Go.Proofs.YtmfoehaeejhlpaaGreatDoor.tkP
    omega
theorem wf_c {x : Tree} {w : ByteArray} (h : OkC wsB w x) : ∀ b, b ≤ 20 → sz x ≤ 1048576 → wfT x b := by
  obtain ⟨l, a, rfl, hl⟩ := h
  intro b hb hz
  rw [sz_mk] at hz
  have hll := len_szs l
  rw [wfT]
  refine ⟨by simpa [bkN] using hb, .inr (.inl rfl), (by intro e; cases e), by simp [fsL], by omega, fun i hi => ?_, wfTs_of fun x hx => wf_n (hl x hx) b hb⟩
  have er : roleAt 3 i = 7 := by simp [roleAt, fsL, peR, maR]
  rw [er]
  obtain ⟨u, c, ev, -⟩ := hl _ (List.getElem_mem hi)
  rw [ev]
  exact .inr (.inr (.inr (.inr (.inr (.inr (.inl ⟨rfl, rfl⟩))))))
theorem okC_role {ws : List ByteArray} {w : ByteArray} {c : Tree} (h : OkC ws w c) : opT c = 3 ∧ txT c = w := by
  obtain ⟨l, a, rfl, -⟩ := h
  exact ⟨rfl, rfl⟩
theorem wf_m {x : Tree} (h : OkM wsB x) (hz : sz x ≤ 1048576) : wfT x 0 := by
  cases h with
  | @sys t c0 c1 c2 c3 k a h1 o0 o1 o2 o3 h2 h3 =>
    simp only [sz_mk, szs] at hz
    rw [wfT]
    refine ⟨by decide, .inl ⟨by omega, nm_ok h1⟩, (by intro e; cases e), by simp [fsL], by simp, fun i hi => ?_, ?_⟩
    · have hi' : i < 5 := hi
      match i, hi' with
      | 0, _ => exact .inr (.inl ⟨rfl, okC_role o0⟩)
      | 1, _ => exact .inr (.inr (.inl ⟨rfl, okC_role o1⟩))
      | 2, _ => exact .inr (.inr (.inr (.inl ⟨rfl, okC_role o2⟩)))
      | 3, _ => exact .inr (.inr (.inr (.inr (.inl ⟨rfl, okC_role o3⟩))))
      | 4, _ => exact role_5 h3
    · have e : bkN 2 0 = 0 := rfl
      rw [e, wfTs, wfTs, wfTs, wfTs, wfTs, wfTs]
      exact ⟨wf_c o0 0 (by omega) (by omega), wf_c o1 0 (by omega) (by omega), wf_c o2 0 (by omega) (by omega), wf_c o3 0 (by omega) (by omega), wf_s h2 0 (by omega) (by omega), trivial⟩
  | @fn t l k a a1 h1 h2 h3 h4 h5 =>
    simp only [sz_mk, szs] at hz
    rw [wfT]
    refine ⟨by decide, .inl ⟨by omega, nm_ok h1⟩, (by intro e; cases e), by simp [fsL], by simp, fun i hi => ?_, ?_⟩
    · have hi' : i < 2 := hi
      match i, hi' with
      | 0, _ => exact .inr (.inr (.inr (.inr (.inr (.inl ⟨rfl, rfl, rfl⟩)))))
      | 1, _ => exact role_5 h5
    · have e : bkN 4 0 = 0 := rfl
      rw [e, wfTs, wfTs, wfTs]
      exact ⟨wf_c ⟨l, a1, rfl, h2⟩ 0 (by omega) (by rw [sz_mk]; omega), wf_s h4 0 (by omega) (by omega), trivial⟩
theorem wf_pg {l : List Tree} (h : ∀ x ∈ l, OkM wsB x) (hz : szs l ≤ 1048576) : wfT (.mk 1 (bs []) 0 l 0) 0 := by
  have hll := len_szs l
  rw [wfT]
  refine ⟨by decide, by simp [txOk], (by intro e; cases e), by simp [fsL], by omega, fun i hi => ?_, wfTs_of fun x hx => wf_m (h x hx) (by have := szs_le hx; omega)⟩
  have er : roleAt 1 i = 1 := by simp [roleAt, fsL, peR, maR]
  rw [er]
  have := h _ (List.getElem_mem hi)
  refine .inl ⟨rfl, ?_⟩
  cases hx : l[i] with
  | mk op t n r a =>
    rw [hx] at this
    cases this with
    | sys => exact .inl rfl
    | fn => exact .inr rfl
end Go.Proofs.YtmfoehaeejhlpaaGreatDoor
