import Derived.Test.YtmfoehaeejhlpaaGreatDoorGaBL
/-
  Expressions are read as they are written.
-/
namespace Go.Proofs.YtmfoehaeejhlpaaGreatDoor.Yn
set_option maxRecDepth 100000
theorem hdT_cons (y : Y) (l : List Y) : hdT (y :: l) = y.2 := rfl
theorem fo_sg {x : ByteArray} (h : x ≠ cOpen ∧ x ≠ cDot) (l : List Y) : Fo (sg x :: l) := h
theorem isAt_sg {s : S} {x : ByteArray} {l : List Y} {st sy fu de : Nat} (h : At s (sg x :: l) st sy fu de) : isAt s x = true := isAt_is rfl h
theorem isAt_wd {s : S} {x : ByteArray} {l : List Y} {st sy fu de : Nat} (h : At s (wd x :: l) st sy fu de) : isAt s x = true := isAt_is rfl h
theorem pO_bare {L : Nat} {t : Tree} (h : L ≤ str t) : pO L t = pE t := if_pos h
theorem pO_par {L : Nat} {t : Tree} (h : ¬ L ≤ str t) : pO L t = [sg cOpen] ++ pE t ++ [sg cClose] := if_neg h
theorem opE_bare {L : Nat} {t : Tree} (h : L ≤ str t) : opE L t = nE t := if_pos h
theorem opE_par {L : Nat} {t : Tree} (h : ¬ L ≤ str t) : opE L t = nE t + 1 := if_neg h
theorem bind_fo {t : ByteArray} (h : 1 ≤ binding t) : t ≠ cOpen ∧ t ≠ cDot := by
  constructor
  · rintro rfl; exact absurd h (by decide)
  · rintro rfl; exact absurd h (by decide)
theorem binary_reach {ws : List ByteArray} {n : Nat} (I : ∀ k, k ≤ n → AllB ws k) {t : Tree} (ht : ShE ws t) : ∀ L least s rest st sy fu de, 1 ≤ least → least ≤ L → L ≤ 7 → At s (tks (pO L t) ++ rest) st sy fu de → de + opE L t ≤ 20 → Fo rest → binding (hdT rest) ≤ L → Yn.binary ws (n + 1) least s = .out ∨ ∃ m u s', m ≤ n ∧ Se t u ∧ At s' rest st sy fu de ∧ Yn.binary ws (n + 1) least s = Yn.binL ws m least u s' := by
  have easy : ∀ t, ShE ws t → ∀ L least s rest st sy fu de, 1 ≤ least → least ≤ L → L ≤ 7 → (str t = 7 ∨ ¬ L ≤ str t) → At s (tks (pO L t) ++ rest) st sy fu de → de + opE L t ≤ 20 → Fo rest → Yn.binary ws (n + 1) least s = .out ∨ ∃ m u s', m ≤ n ∧ Se t u ∧ At s' rest st sy fu de ∧ Yn.binary ws (n + 1) least s = Yn.binL ws m least u s' := by
    intro t ht L least s rest st sy fu de h1 h2 h3 h4 hat hde hfo
    have e1 : pO L t = pO 7 t ∧ opE L t = opE 7 t := by
      rcases h4 with h4 | h4
      · exact ⟨by rw [pO_bare (by omega), pO_bare (by omega)], by rw [opE_bare (by omega), opE_bare (by omega)]⟩
      · exact ⟨by rw [pO_par h4, pO_par (by omega)], by rw [opE_par h4, opE_par (by omega)]⟩
    rw [e1.1] at hat
    rw [e1.2] at hde
    rcases (I n (Nat.le_refl _)).unary t s rest st sy fu de ht hat hde hfo with e | ⟨u, s', e, hu, hs'⟩
    · left
      rw [Yn.binary, e]
      rfl
    · right
      refine ⟨n, u, s', Nat.le_refl _, hu, hs', ?_⟩
      rw [Yn.binary, e]
      rfl
  induction ht with
  | num h1 h2 => intro L least s rest st sy fu de a1 a2 a3 a4 a5 a6 _; exact easy _ (.num h1 h2) L least s rest st sy fu de a1 a2 a3 (.inl (str_leaf (by decide) _ _ _ _)) a4 a5 a6
  | name h1 => intro L least s rest st sy fu de a1 a2 a3 a4 a5 a6 _; exact easy _ (.name h1) L least s rest st sy fu de a1 a2 a3 (.inl (str_leaf (by decide) _ _ _ _)) a4 a5 a6
  | field h1 h2 => intro L least s rest st sy fu de a1 a2 a3 a4 a5 a6 _; exact easy _ (.field h1 h2) L least s rest st sy fu de a1 a2 a3 (.inl (str_leaf (by decide) _ _ _ _)) a4 a5 a6
  | un h1 h2 _ => intro L least s rest st sy fu de a1 a2 a3 a4 a5 a6 _; exact easy _ (.un h1 h2) L least s rest st sy fu de a1 a2 a3 (.inl (str_leaf (by decide) _ _ _ _)) a4 a5 a6
  | con h1 h2 h3 _ _ _ => intro L least s rest st sy fu de a1 a2 a3 a4 a5 a6 _; exact easy _ (.con h1 h2 h3) L least s rest st sy fu de a1 a2 a3 (.inr (by rw [str_con]; omega)) a4 a5 a6
  | call h1 h2 _ => intro L least s rest st sy fu de a1 a2 a3 a4 a5 a6 _; exact easy _ (.call h1 h2) L least s rest st sy fu de a1 a2 a3 (.inl (str_leaf (by decide) _ _ _ _)) a4 a5 a6
  | has h1 => intro L least s rest st sy fu de a1 a2 a3 a4 a5 a6 _; exact easy _ (.has h1) L least s rest st sy fu de a1 a2 a3 (.inl (str_leaf (by decide) _ _ _ _)) a4 a5 a6
  | word h1 => intro L least s rest st sy fu de a1 a2 a3 a4 a5 a6 _; exact easy _ (.word h1) L least s rest st sy fu de a1 a2 a3 (.inl (str_leaf (by decide) _ _ _ _)) a4 a5 a6
  | @bin t x y a hb hx hy ihx _ =>
    intro L least s rest st sy fu de a1 a2 a3 a4 a5 a6 a7
    by_cases hL : L ≤ binding t
    · have hb6 := bind_lt t
      have hL' : L ≤ str (.mk 33 t 0 [x, y] a) := by rw [str_bin]; exact hL
      rw [pO_bare hL', pE_bin] at a4
      rw [opE_bare hL', nE_bin] at a5
      have hox : opE (binding t) x = opN (binding t) (str x) (nE x) := rfl
      have hoy : opE (binding t + 1) y = opN (binding t + 1) (str y) (nE y) := rfl
      have e1 : tks (pO (binding t) x ++ [bl, sg t, bl] ++ pO (binding t + 1) y) ++ rest = tks (pO (binding t) x) ++ (sg t :: (tks (pO (binding t + 1) y) ++ rest)) := by
        simp only [tks_app, tks_bl, tks_sg, List.append_assoc, List.cons_append, List.nil_append]
      rw [e1] at a4
      rcases ihx (binding t) least s _ st sy fu de a1 (by omega) (by omega) a4 (by omega) (bind_fo hb) (by rw [hdT_cons]; exact Nat.le_refl _) with e | ⟨m, u, s', hm, hu, hs', e⟩
      · exact .inl e
      · cases m with
        | zero =>
          left
          rw [e, Yn.binL]
        | succ m =>
          obtain ⟨g1, g2, g3⟩ := hs'.cons
          have g2' : (hd s').t = t := g2
          have e2 : Yn.binL ws (m + 1) least u s' = (Yn.binary ws m (binding t + 1) (nx s')).bind fun right s1 => Yn.binL ws m least (.mk 33 t 0 [u, right] (hd s').a) s1 := by
            rw [Yn.binL, g2', if_neg (by omega)]
          rcases (I m (by omega)).binary (binding t + 1) y (nx s') rest st sy fu de (by omega) (by omega) hy g3 (by omega) a6 (by omega) with e3 | ⟨v, s2, e3, hv, hs2⟩
          · left
            rw [e, e2, e3]
            rfl
          · right
            refine ⟨m, .mk 33 t 0 [u, v] (hd s').a, s2, by omega, ?_, hs2, ?_⟩
            · unfold Se at hu hv ⊢
              simp only [er_mk, ers, hu, hv]
            · rw [e, e2, e3]
              rfl
    · exact easy _ (.bin hb hx hy) L least s rest st sy fu de a1 a2 a3 (.inr (by rw [str_bin]; exact hL)) a4 a5 a6
theorem binary_b {ws : List ByteArray} {n : Nat} (I : ∀ k, k ≤ n → AllB ws k) : ∀ least t s rest st sy fu de, 1 ≤ least → least ≤ 7 → ShE ws t → At s (tks (pO least t) ++ rest) st sy fu de → de + opE least t ≤ 20 → Fo rest → binding (hdT rest) < least → Rr (Se t) rest st sy fu de (Yn.binary ws (n + 1) least s) := by
  intro least t s rest st sy fu de a1 a2 ht a3 a4 a5 a6
  rcases binary_reach I ht least least s rest st sy fu de a1 (Nat.le_refl _) a2 a3 a4 a5 (by omega) with e | ⟨m, u, s', hm, hu, hs', e⟩
  · exact .inl e
  · cases m with
    | zero => left; rw [e, Yn.binL]
    | succ m =>
      right
      refine ⟨u, s', ?_, hu, hs'⟩
      rw [e, Yn.binL, hs'.hdt.1, if_pos a6]
theorem cond_b {ws : List ByteArray} {n : Nat} (I : AllB ws n) : ∀ t s rest st sy fu de, ShE ws t → At s (tks (pE t) ++ rest) st sy fu de → de + nE t ≤ 20 → Fo rest → binding (hdT rest) = 0 → hdT rest ≠ cQu → Rr (Se t) rest st sy fu de (Yn.cond ws (n + 1) s) := by
  intro t s rest st sy fu de ht hat hde hfo hb hq
  rw [Yn.cond]
  by_cases hc : 1 ≤ str t
  · have hat' : At s (tks (pO 1 t) ++ rest) st sy fu de := by rw [pO_bare hc]; exact hat
    refine Rr.bind (I.binary 1 t s rest st sy fu de (by omega) (by omega) ht hat' (by rw [opE_bare hc]; exact hde) hfo (by omega)) fun x s' hx hs' => ?_
    rw [isAt_at hs' hq, if_neg (by decide)]
    exact Rr.ok hx hs'
  · cases ht with
    | con hx hy hz =>
      rename_i x y z a
      rw [pE_con] at hat
      rw [nE_con] at hde
      have hox : opE 1 x = opN 1 (str x) (nE x) := rfl
      have e1 : tks (pO 1 x ++ [bl, sg cQu, bl] ++ pE y ++ [bl, sg cCol, bl] ++ pE z) ++ rest = tks (pO 1 x) ++ (sg cQu :: (tks (pE y) ++ (sg cCol :: (tks (pE z) ++ rest)))) := by
        simp only [tks_app, tks_bl, tks_sg, List.append_assoc, List.cons_append, List.nil_append]
      rw [e1] at hat
      refine Rr.bind (I.binary 1 x s _ st sy fu de (by omega) (by omega) hx hat (by omega) (fo_sg (by decide) _) (show binding cQu < 1 by decide)) fun u s1 hu hs1 => ?_
      rw [isAt_sg hs1, if_pos rfl]
      refine Rr.bind (open_at rfl hs1 (by omega)) fun _ s2 _ hs2 => ?_
      refine Rr.bind (I.cond y s2 _ st sy fu (de + 1) hy hs2 (by omega) (fo_sg (by decide) _) (show binding cCol = 0 by decide) (show cCol ≠ cQu by decide)) fun v s3 hv hs3 => ?_
      refine Rr.bind (take_at rfl hs3) fun _ s4 _ hs4 => ?_
      refine Rr.bind (I.cond z s4 rest st sy fu (de + 1) hz hs4 (by omega) hfo hb hq) fun w s5 hw hs5 => ?_
      refine Rr.ok ?_ hs5.leave
      unfold Se at hu hv hw ⊢
      simp only [er_mk, ers, hu, hv, hw]
    | num => exact absurd (by rw [str_leaf (by decide)]; omega) hc
    | name => exact absurd (by rw [str_leaf (by decide)]; omega) hc
    | field => exact absurd (by rw [str_leaf (by decide)]; omega) hc
    | bin h => exact absurd (by rw [str_bin]; omega) hc
    | un => exact absurd (by rw [str_leaf (by decide)]; omega) hc
    | call => exact absurd (by rw [str_leaf (by decide)]; omega) hc
    | has => exact absurd (by rw [str_leaf (by decide)]; omega) hc
    | word => exact absurd (by rw [str_leaf (by decide)]; omega) hc
theorem conds_b {ws : List ByteArray} {n : Nat} (I : AllB ws n) : ∀ acc l s rest st sy fu de, (∀ x ∈ l, ShE ws x) → At s (tks (comR (pEs l)) ++ sg cClose :: rest) st sy fu de → (∀ x ∈ l, de + nE x ≤ 20) → Rr (fun m => ers m = ers acc ++ ers l) (sg cClose :: rest) st sy fu de (Yn.conds ws (n + 1) acc s) := by
  intro acc l s rest st sy fu de hl hat hde
  rw [Yn.conds]
  cases l with
  | nil =>
    rw [pEs, comR, tks_nil, List.nil_append] at hat
    rw [isAt_at hat (show cClose ≠ cCom by decide), if_neg (by decide)]
    exact Rr.ok (by rw [ers, List.append_nil]) hat
  | cons x r =>
    rw [pEs, comR] at hat
    have e1 : tks ([sg cCom, bl] ++ pE x ++ comR (pEs r)) ++ sg cClose :: rest = sg cCom :: (tks (pE x) ++ (tks (comR (pEs r)) ++ sg cClose :: rest)) := by
      simp only [tks_app, tks_bl, tks_sg, List.append_assoc, List.cons_append, List.nil_append]
    rw [e1] at hat
    rw [isAt_sg hat, if_pos rfl]
    have hh : hdT (tks (comR (pEs r)) ++ sg cClose :: rest) = cCom ∨ hdT (tks (comR (pEs r)) ++ sg cClose :: rest) = cClose := by
      cases r with
      | nil => right; rw [pEs, comR]; rfl
      | cons y r => left; rw [pEs, comR]; rfl
    refine Rr.bind (I.cond x (nx s) _ st sy fu de (hl x (List.mem_cons_self ..)) hat.cons.2.2 (hde x (List.mem_cons_self ..)) (by rcases hh with e | e <;> unfold Fo <;> rw [e] <;> decide) (by rcases hh with e | e <;> rw [e] <;> decide) (by rcases hh with e | e <;> rw [e] <;> decide)) fun u s1 hu hs1 => ?_
    have := I.conds (acc ++ [u]) r s1 rest st sy fu de (fun y hy => hl y (List.mem_cons_of_mem _ hy)) hs1 (fun y hy => hde y (List.mem_cons_of_mem _ hy))
    have e2 : ers (acc ++ [u]) ++ ers r = ers acc ++ ers (x :: r) := by
      unfold Se at hu
      rw [ers_app, ers_one, hu, ers, List.append_assoc]
      rfl
    rw [e2] at this
    exact this
theorem long_ne (a b : UInt8) (r : List UInt8) (c : UInt8) : bs (a :: b :: r) ≠ bs [c] := by
  intro e
  have : (bs (a :: b :: r)).data.toList = (bs [c]).data.toList := congrArg (fun b => b.data.toList) e
  have : a :: b :: r = [c] := this
  injection this with _ this
  cases this
theorem isBuilt_cases {t : ByteArray} (h : isBuiltIn t = true) : t = bs [114, 97, 110, 100] ∨ t = bs [105, 110, 112, 117, 116] ∨ t = bs [109, 105, 110] ∨ t = bs [109, 97, 120] ∨ t = bs [97, 98, 115] := of_decide_eq_true h
/-- What an expression begins with. -/
def Hp (ws : List ByteArray) (y : Y) : Prop := (y.1 = 2 ∧ ∃ n : Int, 0 ≤ n ∧ y.2 = itB n) ∨ (y.1 = 1 ∧ ((y.2 ∉ ws ∧ Wrd y.2) ∨ y.2 = wTick ∨ y.2 = wMe ∨ y.2 = wHas ∨ isBuiltIn y.2 = true)) ∨ y = sg cOpen ∨ y = sg cMin ∨ y = sg cNot
theorem hp_cons {ws : List ByteArray} {t : Tree} (ht : ShE ws t) : ∃ y r, tks (pE t) = y :: r ∧ Hp ws y := by
  have par : ∀ (L : Nat) (x : Tree), (∃ y r, tks (pE x) = y :: r ∧ Hp ws y) → ∃ y r, tks (pO L x) = y :: r ∧ Hp ws y := by
    rintro L x ⟨y, r, e, h⟩
    by_cases hL : L ≤ str x
    · rw [pO_bare hL]; exact ⟨y, r, e, h⟩
    · rw [pO_par hL]; exact ⟨sg cOpen, _, rfl, .inr (.inr (.inl rfl))⟩
  induction ht with
  | num h1 h2 => rw [pE_num]; exact ⟨_, _, rfl, .inl ⟨rfl, _, h1, rfl⟩⟩
  | name h1 => rw [pE_name]; exact ⟨_, _, rfl, .inr (.inl ⟨rfl, .inl ⟨h1.2, h1.1⟩⟩)⟩
  | field h1 h2 => rw [pE_field]; exact ⟨_, _, rfl, .inr (.inl ⟨rfl, .inl ⟨h1.2, h1.1⟩⟩)⟩
  | @bin t x y a hb hx hy ihx _ =>
    obtain ⟨z, r, e, h⟩ := par (binding t) x ihx
    rw [pE_bin, tks_app, tks_app, e]
    exact ⟨z, _, rfl, h⟩
  | un h1 h2 _ =>
    rw [pE_un]
    exact ⟨sg _, _, rfl, .inr (.inr (.inr (h1.imp (fun e => by rw [e]) (fun e => by rw [e]))))⟩
  | @con x y z a hx hy hz ihx _ _ =>
    obtain ⟨u, r, e, h⟩ := par 1 x ihx
    rw [pE_con, tks_app, tks_app, tks_app, tks_app, e]
    exact ⟨u, _, rfl, h⟩
  | call h1 h2 _ =>
    rw [pE_call]
    refine ⟨wd _, _, rfl, .inr (.inl ⟨rfl, ?_⟩)⟩
    rcases h1 with h | h
    · exact .inr (.inr (.inr (.inr h)))
    · exact .inl ⟨h.2, h.1⟩
  | has h1 => rw [pE_has]; exact ⟨_, _, rfl, .inr (.inl ⟨rfl, .inr (.inr (.inr (.inl rfl)))⟩)⟩
  | word h1 =>
    rw [pE_word]
    refine ⟨_, _, rfl, .inr (.inl ⟨rfl, ?_⟩)⟩
    rcases h1 with h | h
    · exact .inr (.inl h)
    · exact .inr (.inr (.inl h))
theorem hp_ne {ws : List ByteArray} {y : Y} (h : Hp ws y) (c : UInt8) (h1 : c.toNat < 48 ∨ 57 < c.toNat) (h2 : Le.isLe c.toNat = false) (h3 : c ≠ 40 ∧ c ≠ 45 ∧ c ≠ 33) : y.2 ≠ bs [c] := by
  rcases h with ⟨-, n, hn, e⟩ | ⟨-, h | e | e | e | h⟩ | rfl | rfl | rfl
  · rw [e]
    intro e'
    have q := it_eq hn
    rw [e'] at q
    have := dec_dig _ _ (Nat.le_refl n.toNat) c (by rw [← q]; simp [bs])
    omega
  · exact wrd_ne h.2 c h2
  · rw [e]; exact long_ne 116 105 [99, 107] c
  · rw [e]; exact long_ne 109 101 [] c
  · rw [e]; exact long_ne 104 97 [115] c
  · rcases isBuilt_cases h with e | e | e | e | e <;> rw [e] <;> exact long_ne _ _ _ c
  · intro e
    have : (bs [40]).data.toList = (bs [c]).data.toList := congrArg (fun b => b.data.toList) e
    have : [(40 : UInt8)] = [c] := this
    injection this with this _
    exact h3.1 this.symm
  · intro e
    have : (bs [45]).data.toList = (bs [c]).data.toList := congrArg (fun b => b.data.toList) e
    have : [(45 : UInt8)] = [c] := this
    injection this with this _
    exact h3.2.1 this.symm
  · intro e
    have : (bs [33]).data.toList = (bs [c]).data.toList := congrArg (fun b => b.data.toList) e
    have : [(33 : UInt8)] = [c] := this
    injection this with this _
    exact h3.2.2 this.symm
theorem args_b {ws : List ByteArray} {n : Nat} (I : AllB ws n) : ∀ l s rest st sy fu de, (∀ x ∈ l, ShE ws x) → At s (sg cOpen :: (tks (comP (pEs l)) ++ sg cClose :: rest)) st sy fu de → (∀ x ∈ l, de + 1 + nE x ≤ 20) → de + 1 ≤ 20 → Rr (fun m => ers m = ers l) rest st sy fu de (Yn.args ws (n + 1) s) := by
  intro l s rest st sy fu de hl hat hde hd1
  rw [Yn.args]
  refine Rr.bind (open_at rfl hat hd1) fun _ s1 _ hs1 => ?_
  refine Rr.bind (P := fun m => ers m = ers l) (l := sg cClose :: rest) (st := st) (sy := sy) (fu := fu) (de := de + 1) ?_ fun m s2 hm hs2 => ?_
  · cases l with
    | nil =>
      rw [pEs, comP, tks_nil, List.nil_append] at hs1
      rw [isAt_sg hs1, if_pos rfl]
      exact Rr.ok rfl hs1
    | cons x r =>
      rw [pEs, comP, tks_app, List.append_assoc] at hs1
      obtain ⟨y, q, e, hy⟩ := hp_cons (hl x (List.mem_cons_self ..))
      have hne : hdT (tks (pE x) ++ (tks (comR (pEs r)) ++ sg cClose :: rest)) ≠ cClose := by
        rw [e]
        exact hp_ne hy 41 (by decide) (by decide) (by decide)
      rw [isAt_at hs1 hne, if_neg (by decide)]
      have hh : hdT (tks (comR (pEs r)) ++ sg cClose :: rest) = cCom ∨ hdT (tks (comR (pEs r)) ++ sg cClose :: rest) = cClose := by
        cases r with
        | nil => right; rw [pEs, comR]; rfl
        | cons y r => left; rw [pEs, comR]; rfl
      refine Rr.bind (I.cond x s1 _ st sy fu (de + 1) (hl x (List.mem_cons_self ..)) hs1 (hde x (List.mem_cons_self ..)) (by rcases hh with e | e <;> unfold Fo <;> rw [e] <;> decide) (by rcases hh with e | e <;> rw [e] <;> decide) (by rcases hh with e | e <;> rw [e] <;> decide)) fun u s2 hu hs2 => ?_
      have := I.conds [u] r s2 rest st sy fu (de + 1) (fun y hy => hl y (List.mem_cons_of_mem _ hy)) hs2 (fun y hy => hde y (List.mem_cons_of_mem _ hy))
      have e2 : ers [u] ++ ers r = ers (x :: r) := by
        unfold Se at hu
        rw [ers_one, hu, ers]
        rfl
      rw [e2] at this
      exact this
  · refine Rr.bind (take_at rfl hs2) fun _ s3 _ hs3 => ?_
    exact Rr.ok hm hs3.leave
theorem unary_b {ws : List ByteArray} {n : Nat} (I : AllB ws n) : ∀ t s rest st sy fu de, ShE ws t → At s (tks (pO 7 t) ++ rest) st sy fu de → de + opE 7 t ≤ 20 → Fo rest → Rr (Se t) rest st sy fu de (Yn.unary ws (n + 1) s) := by
  intro t s rest st sy fu de ht hat hde hfo
  rw [Yn.unary]
  by_cases ho : opn t = 34
  · cases ht with
    | un h1 hx =>
      rename_i t x a
      have h7 : 7 ≤ str (.mk 34 t 0 [x] a) := by rw [str_leaf (by decide)]; omega
      rw [pO_bare h7, pE_un] at hat
      rw [opE_bare h7, nE_un] at hde
      have hox : opE 7 x = opN 7 (str x) (nE x) := rfl
      have hat' : At s (sg t :: (tks (pO 7 x) ++ rest)) st sy fu de := hat
      obtain ⟨-, g2, -⟩ := hat'.cons
      have g2' : (hd s).t = t := g2
      have hm : (isAt s cMin || isAt s cNot) = true := by
        rcases h1 with e | e
        · rw [isAt_is (x := cMin) e hat']; rfl
        · rw [isAt_is (x := cNot) e hat']; exact Bool.or_true _
      rw [hm, if_pos rfl, g2']
      refine Rr.bind (open_at rfl hat' (by omega)) fun _ s1 _ hs1 => ?_
      refine Rr.bind (I.unary x s1 rest st sy fu (de + 1) hx hs1 (by omega) hfo) fun u s2 hu hs2 => ?_
      refine Rr.ok ?_ hs2.leave
      unfold Se at hu ⊢
      simp only [er_mk, ers, hu]
    | num => exact absurd ho (by simp [opn])
    | name => exact absurd ho (by simp [opn])
    | field => exact absurd ho (by simp [opn])
    | bin => exact absurd ho (by simp [opn])
    | con => exact absurd ho (by simp [opn])
    | call => exact absurd ho (by simp [opn])
    | has => exact absurd ho (by simp [opn])
    | word => exact absurd ho (by simp [opn])
  · have hne : hdT (tks (pO 7 t) ++ rest) ≠ cMin ∧ hdT (tks (pO 7 t) ++ rest) ≠ cNot := by
      by_cases h7 : 7 ≤ str t
      · rw [pO_bare h7]
        cases ht with
        | num h1 h2 => rw [pE_num]; exact ⟨it_ne h1 45 (by decide), it_ne h1 33 (by decide)⟩
        | name h1 => rw [pE_name]; exact ⟨wrd_ne h1.1 45 (by decide), wrd_ne h1.1 33 (by decide)⟩
        | field h1 h2 => rw [pE_field]; exact ⟨wrd_ne h1.1 45 (by decide), wrd_ne h1.1 33 (by decide)⟩
        | @bin t x y a hb hx hy =>
          rw [str_bin] at h7
          have := bind_lt t
          omega
        | un => exact absurd rfl ho
        | con => rw [str_con] at h7; omega
        | call h1 h2 =>
          rw [pE_call]
          rcases h1 with h | h
          · rcases isBuilt_cases h with rfl | rfl | rfl | rfl | rfl
            · exact ⟨long_ne 114 97 [110, 100] 45, long_ne 114 97 [110, 100] 33⟩
            · exact ⟨long_ne 105 110 [112, 117, 116] 45, long_ne 105 110 [112, 117, 116] 33⟩
            · exact ⟨long_ne 109 105 [110] 45, long_ne 109 105 [110] 33⟩
            · exact ⟨long_ne 109 97 [120] 45, long_ne 109 97 [120] 33⟩
            · exact ⟨long_ne 97 98 [115] 45, long_ne 97 98 [115] 33⟩
          · exact ⟨wrd_ne h.1 45 (by decide), wrd_ne h.1 33 (by decide)⟩
        | has h1 => rw [pE_has]; exact ⟨long_ne 104 97 [115] 45, long_ne 104 97 [115] 33⟩
        | word h1 =>
          rw [pE_word]
          rcases h1 with rfl | rfl
          · exact ⟨long_ne 116 105 [99, 107] 45, long_ne 116 105 [99, 107] 33⟩
          · exact ⟨long_ne 109 101 [] 45, long_ne 109 101 [] 33⟩
      · rw [pO_par h7]; exact ⟨show cOpen ≠ cMin by decide, show cOpen ≠ cNot by decide⟩
    rw [isAt_at hat hne.1, isAt_at hat hne.2, Bool.or_false, if_neg (by decide)]
    exact I.primary t s rest st sy fu de ht ho hat hde hfo
theorem primary_b {ws : List ByteArray} {n : Nat} (hw : Wsok ws) (I : AllB ws n) : ∀ t s rest st sy fu de, ShE ws t → opn t ≠ 34 → At s (tks (pO 7 t) ++ rest) st sy fu de → de + opE 7 t ≤ 20 → Fo rest → Rr (Se t) rest st sy fu de (Yn.primary ws (n + 1) s) := by
  intro t s rest st sy fu de ht ho hat hde hfo
  rw [Yn.primary]
  by_cases h7 : 7 ≤ str t
  · rw [pO_bare h7] at hat
    rw [opE_bare h7] at hde
    cases ht with
    | un => exact absurd rfl ho
    | @bin t x y a hb hx hy =>
      rw [str_bin] at h7
      have := bind_lt t
      omega
    | con => rw [str_con] at h7; omega
    | @num v a h1 h2 =>
      rw [pE_num] at hat
      have hat' : At s ((2, itB v) :: rest) st sy fu de := hat
      obtain ⟨g1, g2, g3⟩ := hat'.cons
      rw [isAt_at (x := cOpen) hat' (it_ne h1 40 (by decide)), if_neg (by decide), if_pos g1]
      refine Rr.ok ?_ g3
      unfold Se
      rw [er_mk, er_mk, g2, it_digits h1]
    | @word t a h1 =>
      rw [pE_word] at hat
      have hat' : At s (wd t :: rest) st sy fu de := hat
      obtain ⟨g1, g2, g3⟩ := hat'.cons
      have hne : t ≠ cOpen := by
        rcases h1 with rfl | rfl
        · exact long_ne 116 105 [99, 107] 40
        · exact long_ne 109 101 [] 40
      have hm : (isAt s wTick || isAt s wMe) = true := by
        rcases h1 with rfl | rfl
        · rw [isAt_wd hat']; rfl
        · rw [isAt_wd hat']; exact Bool.or_true _
      rw [isAt_at hat' hne, if_neg (by decide), if_neg (by rw [g1]; show ¬ 1 = 2; decide), if_pos hm]
      refine Rr.ok ?_ g3
      unfold Se
      rw [er_mk, er_mk, g2]
      rfl
    | @has t a h1 =>
      rw [pE_has] at hat
      have hat' : At s (wd wHas :: sg cOpen :: wd t :: sg cClose :: rest) st sy fu de := hat
      obtain ⟨g1, g2, g3⟩ := hat'.cons
      rw [isAt_at hat' (show wHas ≠ cOpen by decide), if_neg (by decide), if_neg (by rw [g1]; show ¬ 1 = 2; decide), isAt_at hat' (show wHas ≠ wTick by decide), isAt_at hat' (show wHas ≠ wMe by decide), if_neg (by decide), isAt_wd hat', if_pos rfl]
      refine Rr.bind (take_at rfl hat') fun _ s1 _ hs1 => ?_
      refine Rr.bind (take_at rfl hs1) fun _ s2 _ hs2 => ?_
      refine Rr.bind (name_at h1.2 hs2) fun u s3 hu hs3 => ?_
      refine Rr.bind (take_at rfl hs3) fun _ s4 _ hs4 => ?_
      refine Rr.ok ?_ hs4
      unfold Se
      rw [er_mk, er_mk, hu]
    | @call t l a h1 h2 =>
      rw [pE_call] at hat
      rw [nE_call] at hde
      have e1 : tks ([wd t, sg cOpen] ++ comP (pEs l) ++ [sg cClose]) ++ rest = wd t :: sg cOpen :: (tks (comP (pEs l)) ++ sg cClose :: rest) := by
        simp only [tks_app, tks_wd, tks_sg, tks_nil, List.append_assoc, List.cons_append, List.nil_append]
      rw [e1] at hat
      obtain ⟨g1, g2, g3⟩ := hat.cons
      have g2' : (hd s).t = t := g2
      have hnd := (nEs_max (20 - (de + 1)) l).2 (by omega)
      have J := I.args l (nx s) rest st sy fu de h2 g3 (fun x hx => by have := hnd x hx; omega) (by omega)
      cases hb : isBuiltIn t with
      | true =>
        have hne : t ≠ cOpen ∧ t ≠ wTick ∧ t ≠ wMe ∧ t ≠ wHas := by
          rcases isBuilt_cases hb with rfl | rfl | rfl | rfl | rfl <;> decide
        rw [isAt_at hat hne.1, if_neg (by decide), if_neg (by rw [g1]; show ¬ 1 = 2; decide), isAt_at hat hne.2.1, isAt_at hat hne.2.2.1, if_neg (by decide), isAt_at hat hne.2.2.2, if_neg (by decide), g2', hb, if_pos rfl]
        refine Rr.bind J fun m s1 hm hs1 => ?_
        refine Rr.ok ?_ hs1
        unfold Se
        rw [er_mk, er_mk, hm]
      | false =>
        have hn : Nm ws t := by
          rcases h1 with h | h
          · rw [h] at hb; cases hb
          · exact h
        have hn1 : t ≠ wTick := fun e => hn.2 (e ▸ hw.tick)
        have hn2 : t ≠ wMe := fun e => hn.2 (e ▸ hw.me)
        have hn3 : t ≠ wHas := fun e => hn.2 (e ▸ hw.has)
        rw [isAt_at (x := cOpen) hat (wrd_ne hn.1 40 (by decide)), if_neg (by decide), if_neg (by rw [g1]; show ¬ 1 = 2; decide), isAt_at hat hn1, isAt_at hat hn2, if_neg (by decide), isAt_at hat hn3, if_neg (by decide), g2', hb, if_neg (by decide)]
        unfold nameNode
        rw [isName_at hn.2 hat, if_pos rfl]
        show Rr _ _ _ _ _ _ (if isAt (nx s) cOpen then _ else _)
        rw [isAt_sg g3, if_pos rfl]
        refine Rr.bind J fun m s1 hm hs1 => ?_
        refine Rr.ok ?_ hs1
        unfold Se
        rw [er_mk, er_mk, hm]
    | @name t a hn =>
      rw [pE_name] at hat
      have hat' : At s (wd t :: rest) st sy fu de := hat
      obtain ⟨g1, g2, g3⟩ := hat'.cons
      have g2' : (hd s).t = t := g2
      have hb : isBuiltIn t = false := by
        cases hb : isBuiltIn t with
        | false => rfl
        | true => exact absurd (hw.built t hb) hn.2
      have hn1 : t ≠ wTick := fun e => hn.2 (e ▸ hw.tick)
      have hn2 : t ≠ wMe := fun e => hn.2 (e ▸ hw.me)
      have hn3 : t ≠ wHas := fun e => hn.2 (e ▸ hw.has)
      rw [isAt_at (x := cOpen) hat' (wrd_ne hn.1 40 (by decide)), if_neg (by decide), if_neg (by rw [g1]; show ¬ 1 = 2; decide), isAt_at hat' hn1, isAt_at hat' hn2, if_neg (by decide), isAt_at hat' hn3, if_neg (by decide), g2', hb, if_neg (by decide)]
      unfold nameNode
      rw [isName_at hn.2 hat', if_pos rfl]
      show Rr _ _ _ _ _ _ (if isAt (nx s) cOpen then _ else _)
      rw [isAt_at g3 hfo.1, if_neg (by decide), isAt_at g3 hfo.2, if_neg (by decide)]
      refine Rr.ok ?_ g3
      unfold Se
      rw [er_mk, er_mk]
    | @field t f a b hn hf =>
      rw [pE_field] at hat
      have hat' : At s (wd t :: sg cDot :: wd f :: rest) st sy fu de := hat
      obtain ⟨g1, g2, g3⟩ := hat'.cons
      have g2' : (hd s).t = t := g2
      have hb : isBuiltIn t = false := by
        cases hb : isBuiltIn t with
        | false => rfl
        | true => exact absurd (hw.built t hb) hn.2
      have hn1 : t ≠ wTick := fun e => hn.2 (e ▸ hw.tick)
      have hn2 : t ≠ wMe := fun e => hn.2 (e ▸ hw.me)
      have hn3 : t ≠ wHas := fun e => hn.2 (e ▸ hw.has)
      rw [isAt_at (x := cOpen) hat' (wrd_ne hn.1 40 (by decide)), if_neg (by decide), if_neg (by rw [g1]; show ¬ 1 = 2; decide), isAt_at hat' hn1, isAt_at hat' hn2, if_neg (by decide), isAt_at hat' hn3, if_neg (by decide), g2', hb, if_neg (by decide)]
      unfold nameNode
      rw [isName_at hn.2 hat', if_pos rfl]
      show Rr _ _ _ _ _ _ (if isAt (nx s) cOpen then _ else _)
      rw [isAt_at g3 (show cDot ≠ cOpen by decide), if_neg (by decide), isAt_sg g3, if_pos rfl]
      have J := nameNode_at hf.2 g3.cons.2.2
      unfold nameNode at J
      refine Rr.bind J fun u s1 hu hs1 => ?_
      obtain ⟨c, rfl⟩ := hu
      refine Rr.ok ?_ hs1
      unfold Se
      simp only [er_mk, ers]
  · rw [pO_par h7] at hat
    rw [opE_par h7] at hde
    have e1 : tks ([sg cOpen] ++ pE t ++ [sg cClose]) ++ rest = sg cOpen :: (tks (pE t) ++ (sg cClose :: rest)) := by
      simp only [tks_app, tks_sg, tks_nil, List.append_assoc, List.cons_append, List.nil_append]
    rw [e1] at hat
    rw [isAt_sg hat, if_pos rfl]
    refine Rr.bind (open_at rfl hat (by omega)) fun _ s1 _ hs1 => ?_
    refine Rr.bind (I.cond t s1 _ st sy fu (de + 1) ht hs1 (by omega) (fo_sg (by decide) _) (show binding cClose = 0 by decide) (show cClose ≠ cQu by decide)) fun u s2 hu hs2 => ?_
    refine Rr.bind (take_at rfl hs2) fun _ s3 _ hs3 => ?_
    exact Rr.ok hu hs3.leave
theorem allB_le {ws : List ByteArray} (hw : Wsok ws) : ∀ n k, k ≤ n → AllB ws k
  | 0, k, h => by
    obtain rfl : k = 0 := by omega
    exact allB_zero ws
  | n + 1, k, h => by
    by_cases hk : k ≤ n
    · exact allB_le hw n k hk
    · obtain rfl : k = n + 1 := by omega
      have I := allB_le hw n
      have J := I n (Nat.le_refl _)
      exact ⟨cond_b J, binary_b I, unary_b J, primary_b hw J, args_b J, conds_b J⟩
theorem allB {ws : List ByteArray} (hw : Wsok ws) (n : Nat) : AllB ws n := allB_le hw n n (Nat.le_refl _)
end Go.Proofs.YtmfoehaeejhlpaaGreatDoor.Yn
