import Derived.Test.YtmfoehaeejhlpaaGreatDoorGaBQ
import Derived.Test.YtmfoehaeejhlpaaGreatDoorGaAX
/-
  How long what is written is, at most.
-/
namespace Go.Proofs.YtmfoehaeejhlpaaGreatDoor
open Go.RowKit Yn
set_option maxRecDepth 100000
def ln (P : List Y) : Nat := (bys P).length
theorem ln_app (A B : List Y) : ln (A ++ B) = ln A + ln B := by unfold ln; rw [bys_app, List.length_append]
theorem ln_cons (y : Y) (B : List Y) : ln (y :: B) = y.2.size + ln B := by unfold ln; rw [bys_cons, List.length_append]; rfl
theorem ln_nil : ln [] = 0 := rfl
theorem ln_wd {t : ByteArray} (h : Wrd t) (B : List Y) : ln (wd t :: B) ≤ 16 + ln B := by
  rw [ln_cons]
  have := h.2.2
  show t.size + ln B ≤ _
  omega
theorem ln_bl (B : List Y) : ln (bl :: B) = 1 + ln B := by rw [ln_cons]; rfl
theorem ln_sg1 (c : UInt8) (B : List Y) : ln (sg (bs [c]) :: B) = 1 + ln B := by rw [ln_cons]; rfl
theorem ln_tab (k : Nat) (B : List Y) : ln (tab k :: B) = k + ln B := by
  rw [ln_cons]
  show (List.replicate k (9 : UInt8)).toArray.size + ln B = _
  simp
theorem ln_op (L : Nat) (t : Tree) : ln (pO L t) ≤ ln (pE t) + 2 := by
  by_cases hL : L ≤ str t
  · rw [pO_bare hL]; omega
  · rw [pO_par hL, ln_app, ln_app]
    have h1 : ln [sg cOpen] = 1 := rfl
    have h2 : ln [sg cClose] = 1 := rfl
    omega
theorem ln_comR {g : Tree → List Y} {c : Nat} : ∀ {l : List Tree}, (∀ x ∈ l, ln (g x) + 2 ≤ c * sz x) → ln (comR (l.map g)) ≤ c * szs l
  | [], _ => by rw [List.map_nil, comR, szs]; exact Nat.zero_le _
  | x :: r, h => by
    have h1 := h x (List.mem_cons_self ..)
    have h2 := ln_comR (l := r) fun y hy => h y (List.mem_cons_of_mem _ hy)
    rw [List.map_cons, comR, ln_app, ln_app, szs, Nat.mul_add]
    have h3 : ln [sg cCom, bl] = 2 := rfl
    omega
theorem ln_comP {g : Tree → List Y} {c : Nat} {l : List Tree} (h : ∀ x ∈ l, ln (g x) + 2 ≤ c * sz x) : ln (comP (l.map g)) ≤ c * szs l := by
  cases l with
  | nil => rw [List.map_nil, comP]; exact Nat.zero_le _
  | cons x r =>
    have h1 := h x (List.mem_cons_self ..)
    have h2 := ln_comR (l := r) fun y hy => h y (List.mem_cons_of_mem _ hy)
    rw [List.map_cons, comP, ln_app, szs, Nat.mul_add]
    omega
theorem ln_e {ws : List ByteArray} {t : Tree} (ht : ShE ws t) : ln (pE t) + 8 ≤ 64 * sz t := by
  induction ht with
  | @num v a h1 h2 =>
    rw [pE_num, ln_cons, sz_leaf, ln_nil]
    have := Lib.itoa_length_le v (by omega) h2
    show (Lib.itoa v).toArray.size + 0 + 8 ≤ _
    simp only [List.size_toArray]
    omega
  | name h1 => rw [pE_name, sz_leaf]; have := ln_wd h1.1 []; rw [ln_nil] at this; omega
  | @field t f a b h1 h2 =>
    rw [pE_field, sz_mk, szs_one, sz_leaf]
    have a1 := ln_wd h1.1 [sg cDot, wd f]
    have a2 : ln [sg cDot, wd f] = 1 + ln [wd f] := ln_sg1 46 [wd f]
    have a3 := ln_wd h2.1 []
    rw [ln_nil] at a3
    omega
  | @bin t x y a hb hx hy ihx ihy =>
    rw [pE_bin, ln_app, ln_app, sz_mk, szs, szs, szs]
    have h1 := ln_op (binding t) x
    have h2 := ln_op (binding t + 1) y
    have h3 : ln [bl, sg t, bl] ≤ 4 := by
      rcases bind_cases hb with rfl | rfl | rfl | rfl | rfl | rfl | rfl | rfl | rfl | rfl | rfl | rfl | rfl <;> decide
    omega
  | @un t x a h1 hx ih =>
    rw [pE_un, ln_app, sz_mk, szs, szs]
    have h2 := ln_op 7 x
    have h3 : ln [sg t] ≤ 1 := by rcases h1 with rfl | rfl <;> decide
    omega
  | @con x y z a hx hy hz ihx ihy ihz =>
    rw [pE_con, ln_app, ln_app, ln_app, ln_app, sz_mk, szs, szs, szs, szs]
    have h1 := ln_op 1 x
    have h2 : ln [bl, sg cQu, bl] = 3 := by decide
    have h3 : ln [bl, sg cCol, bl] = 3 := by decide
    omega
  | @call t l a h1 h2 ih =>
    rw [pE_call, ln_app, ln_app, sz_mk, pEs_map]
    have hw : Wrd t := h1.elim wrd_built (fun h => h.1)
    have a1 := ln_wd hw [sg cOpen]
    have a2 : ln [sg cOpen] = 1 := by decide
    have a3 : ln [sg cClose] = 1 := by decide
    have a4 := ln_comP (g := pE) (c := 64) (l := l) fun x hx => by have := ih x hx; omega
    omega
  | @has t a h1 =>
    rw [pE_has, sz_leaf, ln_cons, ln_cons]
    have a1 := ln_wd h1.1 [sg cClose]
    have a2 : ln [sg cClose] = 1 := by decide
    have a3 : (wd wHas).2.size = 3 := by decide
    have a4 : (sg cOpen).2.size = 1 := by decide
    omega
  | @word t a h1 =>
    rw [pE_word, sz_leaf]
    rcases h1 with rfl | rfl
    · have : ln [wd wTick] = 4 := by decide
      omega
    · have : ln [wd wMe] = 2 := by decide
      omega
theorem ln_v {ws : List ByteArray} {d : Nat} {v : Tree} (h : Vl ws d v) : ln (pV v) + 8 ≤ 64 * sz v := by
  obtain ⟨t, x, a, rfl, ht, hx⟩ := h
  have h1 := ln_e hx.1
  have h2 := ln_wd ht.1 (sg cCol :: bl :: pE x)
  have h3 := ln_sg1 58 (bl :: pE x)
  have h4 := ln_bl (pE x)
  rw [sz_mk, szs_one]
  have e : ln (pV (.mk 24 t 0 [x] a)) = ln (wd t :: sg cCol :: bl :: pE x) := rfl
  have e2 : ln (sg cCol :: bl :: pE x) = ln (sg (bs [58]) :: bl :: pE x) := rfl
  omega
theorem ln_p {ws : List ByteArray} {d : Nat} {p : Tree} (h : Pt ws d p) : ln (pP p) + 8 ≤ 64 * sz p := by
  obtain ⟨e, t, l, a, -, rfl, ht, hl⟩ := h
  have h1 := ln_comP (g := pV) (c := 64) (l := l) fun x hx => by have := ln_v (hl x hx); omega
  have h2 := ln_wd ht.1 [sg cLb]
  have h3 : ln [sg cLb] = 1 := by decide
  have h4 : ln [sg cRb] = 1 := by decide
  have e : ln (pP (.mk 23 t 0 l a)) = ln ([wd t, sg cLb] ++ comP (l.map pV) ++ [sg cRb]) := rfl
  rw [e, ln_app, ln_app, sz_mk]
  omega
theorem ln_ps {ws : List ByteArray} {d : Nat} {l : List Tree} (h : ∀ p ∈ l, Pt ws d p) : ln (pPs l) ≤ 1 + 64 * szs l := by
  have h1 := ln_comP (g := pP) (c := 64) (l := l) fun x hx => by have := ln_p (h x hx); omega
  unfold pPs
  rw [ln_app]
  split
  · have : ln [] = 0 := rfl
    omega
  · have : ln [bl] = 1 := rfl
    omega
theorem ln_flat {g : Tree → List Y} {c : Nat} : ∀ {l : List Tree}, (∀ x ∈ l, ln (g x) ≤ c * sz x) → ln ((l.map g).flatten) ≤ c * szs l
  | [], _ => by rw [List.map_nil, List.flatten_nil]; exact Nat.zero_le _
  | x :: r, h => by
    have h1 := h x (List.mem_cons_self ..)
    have h2 := ln_flat (l := r) fun y hy => h y (List.mem_cons_of_mem _ hy)
    rw [List.map_cons, List.flatten_cons, ln_app, szs, Nat.mul_add]
    omega
theorem ln_sm {ws : List ByteArray} {d : Nat} {t : Tree} (h : OkS ws d t) (ho : opn t ≠ 13 ∧ opn t ≠ 14 ∧ opn t ≠ 15 ∧ opn t ≠ 5) : ln (pM t) + 100 ≤ 200 * sz t := by
  cases h with
  | @lett d u x a h1 h2 =>
    have e : ln (pM (.mk 10 u 0 [x] a)) = ln ([wd wLet, bl] ++ ([wd u] ++ ([bl, sg cEq, bl] ++ pE x))) := rfl
    rw [e, ln_app, ln_app, ln_app, sz_mk, szs_one]
    have a1 : ln [wd wLet, bl] = 4 := by decide
    have a2 := ln_wd h1.1 []
    have a3 : ln [bl, sg cEq, bl] = 3 := by decide
    have a4 := ln_e h2.1
    rw [ln_nil] at a2
    omega
  | @set d u x a h1 h2 =>
    have e : ln (pM (.mk 11 u 0 [x] a)) = ln ([wd u] ++ ([bl, sg cEq, bl] ++ pE x)) := rfl
    rw [e, ln_app, ln_app, sz_mk, szs_one]
    have a2 := ln_wd h1.1 []
    have a3 : ln [bl, sg cEq, bl] = 3 := by decide
    have a4 := ln_e h2.1
    rw [ln_nil] at a2
    omega
  | @setf d u f x a h1 h2 h3 =>
    obtain ⟨w, b, rfl, hw⟩ := h2
    have e : ln (pM (.mk 12 u 0 [.mk 31 w 0 [] b, x] a)) = ln ([wd u] ++ ([sg cDot] ++ ([wd w] ++ ([bl, sg cEq, bl] ++ pE x)))) := rfl
    rw [e, ln_app, ln_app, ln_app, ln_app, sz_mk, szs, szs_one, sz_leaf]
    have a1 : ln [sg cDot] = 1 := by decide
    have a2 := ln_wd h1.1 []
    have a5 := ln_wd hw.1 []
    have a3 : ln [bl, sg cEq, bl] = 3 := by decide
    have a4 := ln_e h3.1
    rw [ln_nil] at a2 a5
    omega
  | if2 => exact absurd rfl ho.1
  | if3 => exact absurd rfl ho.1
  | loop h1 =>
    rcases h1 with rfl | rfl
    · exact absurd rfl ho.2.1
    · exact absurd rfl ho.2.2.1
  | @emit d x y a h1 h2 =>
    have e : ln (pM (.mk 16 (bs []) 0 [x, y] a)) = ln ([wd wEmit, bl] ++ comP (pEs [x, y])) := rfl
    rw [e, ln_app, sz_mk, pEs_map]
    have a1 : ln [wd wEmit, bl] = 5 := by decide
    have a2 := ln_comP (g := pE) (c := 64) (l := [x, y]) fun z hz => by
      rcases List.mem_cons.1 hz with rfl | hz
      · have := ln_e h1.1; omega
      · rw [List.mem_singleton] at hz
        subst hz
        have := ln_e h2.1; omega
    omega
  | @spawn d l a h1 =>
    have e : ln (pM (.mk 17 (bs []) 0 l a)) = ln ([wd wSpawn] ++ pPs l) := rfl
    rw [e, ln_app, sz_mk]
    have a1 : ln [wd wSpawn] = 5 := by decide
    have a2 := ln_ps h1
    omega
  | @add d p a h1 =>
    have e : ln (pM (.mk 18 (bs []) 0 [p] a)) = ln ([wd wAdd] ++ pPs [p]) := rfl
    rw [e, ln_app, sz_mk]
    have a1 : ln [wd wAdd] = 3 := by decide
    have a2 := ln_ps (l := [p]) fun z hz => by
      rw [List.mem_singleton] at hz
      subst hz
      exact h1
    omega
  | @remove d u a h1 =>
    have e : ln (pM (.mk 19 u 0 [] a)) = ln ([wd wRemove, bl] ++ [wd u]) := rfl
    rw [e, ln_app, sz_leaf]
    have a1 : ln [wd wRemove, bl] = 7 := by decide
    have a2 := ln_wd h1.1 []
    rw [ln_nil] at a2
    omega
  | leaf h1 =>
    rcases h1 with rfl | rfl
    · rw [sz_leaf]
      have : ln (pM (.mk 20 (bs []) 0 [] 0)) = 3 := by decide
      exact Nat.le_trans (Nat.add_le_add_right (Nat.le_of_eq this) 100) (by decide)
    · rw [sz_leaf]
      have : ln (pM (.mk 21 (bs []) 0 [] 0)) = 4 := by decide
      exact Nat.le_trans (Nat.add_le_add_right (Nat.le_of_eq this) 100) (by decide)
  | @ret d x a h1 =>
    have e : ln (pM (.mk 22 (bs []) 0 [x] a)) = ln ([wd wReturn, bl] ++ pE x) := rfl
    rw [e, ln_app, sz_mk, szs_one]
    have a1 : ln [wd wReturn, bl] = 7 := by decide
    have a4 := ln_e h1.1
    omega
  | block => exact absurd rfl ho.2.2.2
theorem ln_s {ws : List ByteArray} : ∀ f : Nat, (∀ d t k, OkS ws d t → (10 ≤ opn t ∧ opn t ≤ 22) → k + d ≤ 21 → ln (pSt f t k) + 30 ≤ 200 * sz t) ∧ (∀ d t k, OkS ws d t → opn t = 13 → k + d ≤ 21 → ln (pBr f t k) + 30 ≤ 200 * sz t) ∧ (∀ d t k, OkS ws d t → opn t = 5 → k + d ≤ 21 → ln (pBk f t k) + 100 ≤ 200 * sz t)
  | 0 => ⟨fun d t k _ _ _ => by rw [pSt, ln_nil]; have := sz_pos t; omega, fun d t k _ _ _ => by rw [pBr, ln_nil]; have := sz_pos t; omega, fun d t k _ _ _ => by rw [pBk, ln_nil]; have := sz_pos t; omega⟩
  | f + 1 => by
    obtain ⟨i1, i2, i3⟩ := ln_s (ws := ws) f
    refine ⟨fun d t k h ho hk => ?_, fun d t k h ho hk => ?_, fun d t k h ho hk => ?_⟩
    · by_cases h13 : opn t = 13
      · obtain ⟨op, u, n, l, a⟩ := t
        obtain rfl : op = 13 := h13
        rw [pSt_if]
        exact i2 d _ k h rfl hk
      · by_cases h14 : opn t = 14 ∨ opn t = 15
        · cases h with
          | @loop d op c b a h0 h1 h2 h3 =>
            rw [pSt_loop h0, ln_app, ln_app, sz_mk, szs, szs_one]
            have a1 : ln [wd (if op = 14 then wWhile else wRepeat), bl] ≤ 7 := by rcases h0 with rfl | rfl <;> decide
            have a2 := ln_e h1.1
            have a3 := i3 d b k h2 h3 hk
            omega
          | lett => exact absurd h14 (by simp [opn])
          | set => exact absurd h14 (by simp [opn])
          | setf => exact absurd h14 (by simp [opn])
          | if2 => exact absurd h14 (by simp [opn])
          | if3 => exact absurd h14 (by simp [opn])
          | emit => exact absurd h14 (by simp [opn])
          | spawn => exact absurd h14 (by simp [opn])
          | add => exact absurd h14 (by simp [opn])
          | remove => exact absurd h14 (by simp [opn])
          | leaf h1 => exact absurd h14 (by rcases h1 with rfl | rfl <;> simp [opn])
          | ret => exact absurd h14 (by simp [opn])
          | block => exact absurd h14 (by simp [opn])
        · have e : pSt (f + 1) t k = pM t ++ [sg cSemi] := by
            rw [pSt, if_neg h13, if_neg (by omega), if_neg (by omega)]
          rw [e, ln_app]
          have a1 : ln [sg cSemi] = 1 := by decide
          have a2 := ln_sm h (by omega)
          omega
    · cases h with
      | @if2 d c b a h1 h2 h3 =>
        rw [pBr_two, ln_app, ln_app, sz_mk, szs, szs_one]
        have a1 : ln [wd wIf, bl] = 3 := by decide
        have a2 := ln_e h1.1
        have a3 := i3 d b k h2 h3 hk
        omega
      | @if3 d c b x a h1 h2 h3 h4 h5 =>
        rw [pBr_three, ln_app, ln_app, ln_app, ln_app, sz_mk, szs, szs, szs_one]
        have a1 : ln [wd wIf, bl] = 3 := by decide
        have a2 := ln_e h1.1
        have a3 := i3 d b k h2 h3 hk
        have a4 : ln [bl, wd wElse] = 5 := by decide
        have a5 : ln (if opn x = 13 then [bl] ++ pBr f x k else pBk f x k) + 29 ≤ 200 * sz x := by
          by_cases h13 : opn x = 13
          · rw [if_pos h13, ln_app]
            have a6 := i2 d x k h4 h13 hk
            have a7 : ln [bl] = 1 := by decide
            omega
          · rw [if_neg h13]
            have a6 := i3 d x k h4 (h5.resolve_right h13) hk
            omega
        omega
      | lett => exact absurd ho (by simp [opn])
      | set => exact absurd ho (by simp [opn])
      | setf => exact absurd ho (by simp [opn])
      | loop h1 => exact absurd ho (by rcases h1 with rfl | rfl <;> simp [opn])
      | emit => exact absurd ho (by simp [opn])
      | spawn => exact absurd ho (by simp [opn])
      | add => exact absurd ho (by simp [opn])
      | remove => exact absurd ho (by simp [opn])
      | leaf h1 => exact absurd ho (by rcases h1 with rfl | rfl <;> simp [opn])
      | ret => exact absurd ho (by simp [opn])
      | block => exact absurd ho (by simp [opn])
    · cases h with
      | @block d l a h1 h2 =>
        rw [pBk_is, ln_app, ln_app, sz_mk]
        have a1 : ln [bl, sg cLb, nl] = 3 := by decide
        have a2 : ln ([tab k] ++ [sg cRb]) = k + 1 := by
          rw [ln_app, ln_tab, ln_nil]
          have : ln [sg cRb] = 1 := by decide
          omega
        have a3 := ln_flat (g := fun s => [tab (k + 1)] ++ pSt f s (k + 1) ++ [nl]) (c := 200) (l := l) fun x hx => by
          have := i1 d x (k + 1) (h1 x hx) (h2 x hx) (by omega)
          have e1 : ln [tab (k + 1)] = k + 1 := by rw [ln_tab, ln_nil]
          have e2 : ln [nl] = 1 := by decide
          rw [ln_app, ln_app]
          omega
        omega
      | lett => exact absurd ho (by simp [opn])
      | set => exact absurd ho (by simp [opn])
      | setf => exact absurd ho (by simp [opn])
      | if2 => exact absurd ho (by simp [opn])
      | if3 => exact absurd ho (by simp [opn])
      | loop h1 => exact absurd ho (by rcases h1 with rfl | rfl <;> simp [opn])
      | emit => exact absurd ho (by simp [opn])
      | spawn => exact absurd ho (by simp [opn])
      | add => exact absurd ho (by simp [opn])
      | remove => exact absurd ho (by simp [opn])
      | leaf h1 => exact absurd ho (by rcases h1 with rfl | rfl <;> simp [opn])
      | ret => exact absurd ho (by simp [opn])
theorem ln_ns {ws : List ByteArray} {l : List Tree} (h : ∀ x ∈ l, Nn ws x) : ln (comP (l.map pN)) ≤ 64 * szs l := ln_comP fun x hx => by
  obtain ⟨t, a, rfl, ht⟩ := h x hx
  have := ln_wd ht.1 []
  rw [ln_nil] at this
  have e : ln (pN (.mk 31 t 0 [] a)) = ln [wd t] := rfl
  rw [sz_leaf]
  omega
theorem ln_cl {ws : List ByteArray} {w : ByteArray} {c : Tree} (hw : Wrd w) (h : OkC ws w c) : ln (pCl c) ≤ 64 * sz c := by
  obtain ⟨l, a, rfl, hl⟩ := h
  have h1 := ln_ns hl
  rw [pCl, sz_mk]
  split
  · rw [ln_nil]; omega
  · have e : ln ([bl, wd w, bl] ++ comP (l.map pN)) = ln (bl :: (wd w :: (bl :: comP (l.map pN)))) := rfl
    have a1 := ln_wd hw (bl :: comP (l.map pN))
    have a2 := ln_bl (comP (l.map pN))
    have a3 := ln_bl (wd w :: (bl :: comP (l.map pN)))
    omega
theorem ln_mb {ws : List ByteArray} {x : Tree} (h : OkM ws x) (f : Nat) : ln (pMb f x) ≤ 200 * sz x := by
  cases h with
  | @sys t c0 c1 c2 c3 b a h1 o0 o1 o2 o3 h2 h3 =>
    have e : ln (pMb f (.mk 2 t 0 [c0, c1, c2, c3, b] a)) = ln ([wd wSystem, bl] ++ ([wd t] ++ (pCl c0 ++ (pCl c1 ++ (pCl c2 ++ (pCl c3 ++ (pBk f b 0 ++ [nl]))))))) := by
      rw [pMb, if_pos rfl]
      show ln ([wd wSystem, bl, wd t] ++ ([pCl c0, pCl c1, pCl c2, pCl c3].flatten) ++ pBk f b 0 ++ [nl]) = _
      simp only [List.flatten_cons, List.flatten_nil, List.append_nil, List.append_assoc, List.cons_append, List.nil_append]
    rw [e, ln_app, ln_app, ln_app, ln_app, ln_app, ln_app, ln_app]
    simp only [sz_mk, szs]
    have a1 : ln [wd wSystem, bl] = 7 := by decide
    have a2 := ln_wd h1.1 []
    rw [ln_nil] at a2
    have a3 := ln_cl (wrd_of 119 [105, 116, 104] (by decide) (by decide) (by decide)) o0
    have a4 := ln_cl (wrd_of 119 [105, 116, 104, 111, 117, 116] (by decide) (by decide) (by decide)) o1
    have a5 := ln_cl (wrd_of 114 [101, 97, 100, 115] (by decide) (by decide) (by decide)) o2
    have a6 := ln_cl (wrd_of 119 [114, 105, 116, 101, 115] (by decide) (by decide) (by decide)) o3
    have a7 := (ln_s f).2.2 20 b 0 h2 h3 (by omega)
    have a8 : ln [nl] = 1 := by decide
    omega
  | @fn t l b a a1 h1 h2 h3 h4 h5 =>
    have e : ln (pMb f (.mk 4 t 0 [.mk 3 wFunc 0 l a1, b] a)) = ln ([wd wFunc, bl] ++ ([wd t] ++ ([sg cOpen] ++ (comP (l.map pN) ++ ([sg cClose] ++ (pBk f b 0 ++ [nl])))))) := by
      rw [pMb, if_neg (by decide)]
      show ln ([wd wFunc, bl, wd t, sg cOpen] ++ comP (l.map pN) ++ [sg cClose] ++ pBk f b 0 ++ [nl]) = _
      simp only [List.append_assoc, List.cons_append, List.nil_append]
    rw [e, ln_app, ln_app, ln_app, ln_app, ln_app, ln_app]
    simp only [sz_mk, szs]
    have a1 : ln [wd wFunc, bl] = 5 := by decide
    have a2 := ln_wd h1.1 []
    rw [ln_nil] at a2
    have a3 := ln_ns h2
    have a4 : ln [sg cOpen] = 1 := by decide
    have a5 : ln [sg cClose] = 1 := by decide
    have a7 := (ln_s f).2.2 20 b 0 h4 h5 (by omega)
    have a8 : ln [nl] = 1 := by decide
    omega
theorem ln_pg {ws : List ByteArray} {l : List Tree} (h : ∀ x ∈ l, OkM ws x) (f : Nat) : (prPg f l).length ≤ 200 * szs l := by
  rw [← pPg_bys]
  exact ln_flat fun x hx => ln_mb (h x hx) f
theorem pg_ne {ws : List ByteArray} {x : Tree} {r : List Tree} (h : OkM ws x) (f : Nat) : prPg f (x :: r) ≠ [] := by
  rw [← pPg_bys]
  unfold pPg
  rw [List.map_cons, List.flatten_cons, bys_app]
  intro e
  have e1 := (List.append_eq_nil_iff.1 e).1
  cases h with
  | sys => exact absurd e1 (by rw [pMb, if_pos rfl]; exact List.cons_ne_nil _ _)
  | fn => exact absurd e1 (by rw [pMb, if_neg (by decide)]; exact List.cons_ne_nil _ _)
end Go.Proofs.YtmfoehaeejhlpaaGreatDoor

/-
  The grammar: where a fault may lie.
-/
namespace Go.Proofs.YtmfoehaeejhlpaaGreatDoor.Yn
set_option maxRecDepth 100000
/-- Tokens with their end. -/
def Te (T : List Tok) : Prop := ∃ l e, T = l ++ [e] ∧ e.k = 0 ∧ e.t = bs []
/-- Some of them are left. -/
def Jt (T : List Tok) (s : S) : Prop := s.ts <:+ T ∧ s.ts ≠ []
/-- A fault lies at one of them. -/
def Pl {α : Type} (T : List Tok) (r : R α) : Prop := (∀ a e, r = .no a e → (∃ t ∈ T, t.a = a) ∧ e ≠ 0) ∧ ∀ x s', r = .ok x s' → Jt T s'
section
variable {α β : Type} {ws : List ByteArray} {s : S} {T : List Tok}
theorem Pl.bind {r : R α} {f : α → S → R β} (h : Pl T r) (hf : ∀ x s', Jt T s' → Pl T (f x s')) : Pl T (r.bind f) := by
  cases r with
  | out => exact ⟨(by intro a e h; cases h), (by intro x s' h; cases h)⟩
  | no a e => exact ⟨(by intro a' e' h'; cases h'; exact h.1 a e rfl), (by intro x s' h; cases h)⟩
  | ok x s' => exact hf x s' (h.2 x s' rfl)
theorem Pl.out : Pl T (.out : R α) := ⟨(by intro a e h; cases h), (by intro x s' h; cases h)⟩
theorem Pl.ok {x : α} (h : Jt T s) : Pl T (.ok x s) := ⟨(by intro a e h; cases h), (by intro y s' e; cases e; exact h)⟩
theorem no_pl (h : Jt T s) {e : Nat} (he : e ≠ 0 := by decide) : Pl T (.no (hd s).a e : R α) := by
  refine ⟨fun a e' h' => ?_, by intro x s' h; cases h⟩
  cases h'
  refine ⟨?_, he⟩
  obtain ⟨h1, h2⟩ := h
  cases hs : s.ts with
  | nil => exact absurd hs h2
  | cons x l =>
    refine ⟨x, ?_, ?_⟩
    · obtain ⟨p, hp⟩ := h1
      rw [← hp, hs]
      simp
    · unfold hd
      rw [hs]
      rfl
theorem fail_pl (h : Jt T s) {e : Nat} (he : e ≠ 0 := by decide) : Pl T (fail s e : R α) := no_pl h he
theorem nx_j (hT : Te T) (h : Jt T s) (hn : (hd s).k ≠ 0 ∨ (hd s).t ≠ bs []) : Jt T (nx s) := by
  obtain ⟨⟨p, hp⟩, h2⟩ := h
  cases hs : s.ts with
  | nil => exact absurd hs h2
  | cons x l =>
    have ht : (nx s).ts = l := by unfold nx; rw [hs]; rfl
    have hh : hd s = x := by unfold hd; rw [hs]; rfl
    rw [hs] at hp
    refine ⟨?_, ?_⟩
    · rw [ht]
      exact ⟨p ++ [x], by rw [← hp]; simp⟩
    · rw [ht]
      intro e
      subst e
      obtain ⟨l0, e0, hT1, hT2, hT3⟩ := hT
      rw [← hp] at hT1
      have := (List.append_inj' hT1 rfl).2
      injection this with this _
      rw [hh, this] at hn
      rcases hn with hn | hn
      · exact hn hT2
      · exact hn hT3
theorem at_j (hT : Te T) {x : ByteArray} (hx : x ≠ bs []) (hj : Jt T s) (h : isAt s x = true) : Jt T (nx s) := nx_j hT hj (isAt_ne hx h)
theorem take_pl (hT : Te T) (x : ByteArray) (hx : x ≠ bs []) (hj : Jt T s) : Pl T (take x s) := by
  unfold take
  split
  · exact Pl.ok (at_j hT hx hj (by assumption))
  · exact fail_pl hj
theorem open_pl (hT : Te T) (x : ByteArray) (hx : x ≠ bs []) (hj : Jt T s) : Pl T (openS x s) := by
  unfold openS
  split
  · split
    · exact fail_pl hj
    · exact Pl.ok (at_j hT hx hj (by assumption))
  · exact fail_pl hj
theorem name_pl (hT : Te T) (hj : Jt T s) : Pl T (name ws s) := by
  unfold name
  split
  · exact Pl.ok (nx_j hT hj (name_ne (by assumption)))
  · exact fail_pl hj
theorem nameNode_pl (hT : Te T) (hj : Jt T s) : Pl T (nameNode ws s) := by
  unfold nameNode
  split
  · exact Pl.ok (nx_j hT hj (name_ne (by assumption)))
  · exact fail_pl hj
end
theorem expr_pl (ws : List ByteArray) {T : List Tok} (hT : Te T) : ∀ n : Nat, (∀ s, Jt T s → Pl T (cond ws n s)) ∧ (∀ m s, 1 ≤ m → Jt T s → Pl T (binary ws n m s)) ∧ (∀ m l s, 1 ≤ m → Jt T s → Pl T (binL ws n m l s)) ∧ (∀ s, Jt T s → Pl T (unary ws n s)) ∧ (∀ s, Jt T s → Pl T (primary ws n s)) ∧ (∀ s, Jt T s → Pl T (args ws n s)) ∧ (∀ l s, Jt T s → Pl T (conds ws n l s))
  | 0 => ⟨fun s _ => by rw [cond]; exact Pl.out, fun m s _ _ => by rw [binary]; exact Pl.out, fun m l s _ _ => by rw [binL]; exact Pl.out, fun s _ => by rw [unary]; exact Pl.out, fun s _ => by rw [primary]; exact Pl.out, fun s _ => by rw [args]; exact Pl.out, fun l s _ => by rw [conds]; exact Pl.out⟩
  | n + 1 => by
    obtain ⟨ic, ib, il, iu, ip, ia, is⟩ := expr_pl ws hT n
    refine ⟨fun s h => ?_, fun m s hm h => ?_, fun m l s hm h => ?_, fun s h => ?_, fun s h => ?_, fun s h => ?_, fun l s h => ?_⟩
    · rw [cond]
      refine (ib 1 s (by omega) h).bind fun x1 s1 h1 => ?_
      split
      · refine (open_pl hT _ (by decide) h1).bind fun _ s2 h2 => ?_
        refine (ic s2 h2).bind fun _ s3 h3 => ?_
        refine (take_pl hT _ (by decide) h3).bind fun _ s4 h4 => ?_
        exact (ic s4 h4).bind fun _ s5 h5 => Pl.ok h5
      · exact Pl.ok h1
    · rw [binary]
      exact (iu s h).bind fun x1 s1 h1 => il m x1 s1 hm h1
    · rw [binL]
      split
      · exact Pl.ok h
      · rename_i hb
        have hx := nx_j hT h (binding_ne (s := s) (by omega))
        refine (ib _ _ (by omega) hx).bind fun x1 s1 h1 => ?_
        exact il m _ s1 hm h1
    · rw [unary]
      split
      · rename_i hb
        rw [Bool.or_eq_true] at hb
        have hx : (hd s).t ≠ bs [] := by
          rcases hb with hb | hb
          · unfold isAt at hb
            rw [decide_eq_true_eq] at hb
            rw [hb]
            decide
          · unfold isAt at hb
            rw [decide_eq_true_eq] at hb
            rw [hb]
            decide
        refine (open_pl hT _ hx h).bind fun _ s2 h2 => ?_
        exact (iu s2 h2).bind fun _ s3 h3 => Pl.ok h3
      · exact ip s h
    · rw [primary]
      split
      · refine (open_pl hT _ (by decide) h).bind fun _ s2 h2 => ?_
        refine (ic s2 h2).bind fun _ s3 h3 => ?_
        exact (take_pl hT _ (by decide) h3).bind fun _ s4 h4 => Pl.ok h4
      · split
        · exact Pl.ok (nx_j hT h (.inl (by omega)))
        · split
          · rename_i hb
            rw [Bool.or_eq_true] at hb
            rcases hb with hb | hb <;> exact Pl.ok (at_j hT (by decide) h hb)
          · split
            · refine (take_pl hT _ (by decide) h).bind fun _ s2 h2 => ?_
              refine (take_pl hT _ (by decide) h2).bind fun _ s3 h3 => ?_
              refine (name_pl hT h3).bind fun _ s4 h4 => ?_
              exact (take_pl hT _ (by decide) h4).bind fun _ s5 h5 => Pl.ok h5
            · split
              · rename_i hb
                have hx := nx_j hT h (built_ne hb)
                exact (ia _ hx).bind fun _ s2 h2 => Pl.ok h2
              · refine (nameNode_pl hT h).bind fun _ s1 h1 => ?_
                split
                · exact (ia _ h1).bind fun _ s2 h2 => Pl.ok h2
                · split
                  · rename_i hb
                    have hx := at_j hT (by decide) h1 hb
                    exact (nameNode_pl hT hx).bind fun _ s2 h2 => Pl.ok h2
                  · exact Pl.ok h1
    · rw [args]
      refine (open_pl hT _ (by decide) h).bind fun _ s1 h1 => ?_
      refine Pl.bind ?_ fun _ s2 h2 => ?_
      · split
        · exact Pl.ok h1
        · exact (ic s1 h1).bind fun _ s2 h2 => is _ s2 h2
      · exact (take_pl hT _ (by decide) h2).bind fun _ s3 h3 => Pl.ok h3
    · rw [conds]
      split
      · rename_i hb
        have hx := at_j hT (by decide) h hb
        exact (ic _ hx).bind fun _ s2 h2 => is _ s2 h2
      · exact Pl.ok h
section
variable {ws : List ByteArray} {s : S} {n : Nat} {T : List Tok}
theorem cond_pl (hT : Te T) (h : Jt T s) : Pl T (cond ws n s) := (expr_pl ws hT n).1 s h
theorem field_pl (hT : Te T) (h : Jt T s) : Pl T (field ws n s) := by
  unfold field
  refine (name_pl hT h).bind fun _ s1 h1 => ?_
  refine (take_pl hT _ (by decide) h1).bind fun _ s2 h2 => ?_
  exact (cond_pl hT h2).bind fun _ s3 h3 => Pl.ok h3
theorem items_pl (hT : Te T) {p : Nat → S → R Tree} (hp : ∀ n s, Jt T s → Pl T (p n s)) : ∀ (n : Nat) (l : List Tree) (s : S), Jt T s → Pl T (items p n l s)
  | 0, l, s, h => by rw [items]; exact Pl.out
  | n + 1, l, s, h => by
    rw [items]
    split
    · rename_i hb
      have hx := at_j hT (by decide) h hb
      exact (hp _ _ hx).bind fun _ s1 h1 => items_pl hT hp n _ s1 h1
    · exact Pl.ok h
theorem list_pl (hT : Te T) {p : Nat → S → R Tree} (hp : ∀ n s, Jt T s → Pl T (p n s)) (x : ByteArray) (h : Jt T s) : Pl T (listS p n x s) := by
  unfold listS
  split
  · exact Pl.ok h
  · exact (hp _ _ h).bind fun _ s1 h1 => items_pl hT hp n _ s1 h1
theorem part_pl (hT : Te T) (h : Jt T s) : Pl T (part ws n s) := by
  rw [part_eq]
  refine (name_pl hT h).bind fun _ s1 h1 => ?_
  refine (open_pl hT _ (by decide) h1).bind fun _ s2 h2 => ?_
  refine (list_pl hT (fun n s h => field_pl hT h) _ h2).bind fun _ s3 h3 => ?_
  exact (take_pl hT _ (by decide) h3).bind fun _ s4 h4 => Pl.ok h4
theorem tail_pl (hT : Te T) (h : Jt T s) : Pl T (tail ws n s) := by
  unfold tail
  refine (cond_pl hT h).bind fun _ s1 h1 => ?_
  exact (take_pl hT _ (by decide) h1).bind fun _ s2 h2 => Pl.ok h2
theorem way_j (hT : Te T) (hj : Jt T s) {p : ByteArray × Nat} (hp : p ∈ ways) (h : p.1 = (hd s).t) : Jt T (nx s) := by
  refine nx_j hT hj (.inr ?_)
  rw [← h]
  rw [ways] at hp
  simp only [List.mem_cons, List.not_mem_nil, or_false] at hp
  rcases hp with rfl | rfl | rfl | rfl | rfl | rfl | rfl | rfl | rfl | rfl | rfl <;> decide
end
theorem stmt_pl (ws : List ByteArray) {T : List Tok} (hT : Te T) : ∀ n : Nat, (∀ s, Jt T s → Pl T (stmt ws n s)) ∧ (∀ s, Jt T s → Pl T (block ws n s)) ∧ (∀ l s, Jt T s → Pl T (stmts ws n l s))
  | 0 => ⟨fun s _ => by rw [stmt]; exact Pl.out, fun s _ => by rw [block]; exact Pl.out, fun l s _ => by rw [stmts]; exact Pl.out⟩
  | n + 1 => by
    obtain ⟨is, ib, il⟩ := stmt_pl ws hT n
    refine ⟨fun s h => ?_, fun s h => ?_, fun l s h => ?_⟩
    · by_cases hst : s.st = 200
      · rcases wayOf_cases (hd s).t with ⟨hw, -⟩ | ⟨p, hp, -, hw⟩
        · cases hn : isName ws s with
          | false => rw [stmt_name_no hw hn]; exact no_pl h
          | true => rw [stmt_name_full hw hn hst]; exact no_pl h
        · rw [stmt_word hw (by
            intro e
            rw [ways] at hp
            simp only [List.mem_cons, List.not_mem_nil, or_false] at hp
            rcases hp with rfl | rfl | rfl | rfl | rfl | rfl | rfl | rfl | rfl | rfl | rfl <;> cases e) hst]
          exact no_pl h
      · rcases wayOf_cases (hd s).t with ⟨hw, -⟩ | ⟨p, hp, hpt, hw⟩
        · cases hn : isName ws s with
          | false => rw [stmt_name_no hw hn]; exact no_pl h
          | true =>
            rw [stmt_set hw hn hst]
            refine Pl.bind (name_pl hT (show Jt T (up s) from h)) fun _ s1 h1 => ?_
            split
            · rename_i hb
              have hx := at_j hT (by decide) h1 hb
              refine (nameNode_pl hT hx).bind fun _ s2 h2 => ?_
              refine (take_pl hT _ (by decide) h2).bind fun _ s3 h3 => ?_
              exact (tail_pl hT h3).bind fun _ s4 h4 => Pl.ok h4
            · refine (take_pl hT _ (by decide) h1).bind fun _ s3 h3 => ?_
              exact (tail_pl hT h3).bind fun _ s4 h4 => Pl.ok h4
        · have e0 : Jt T (nx (up s)) := way_j hT (show Jt T (up s) from h) hp hpt
          rw [ways] at hp
          simp only [List.mem_cons, List.not_mem_nil, or_false] at hp
          rcases hp with rfl | rfl | rfl | rfl | rfl | rfl | rfl | rfl | rfl | rfl | rfl
          · rw [stmt_let hst hw]
            refine (name_pl hT e0).bind fun _ s1 h1 => ?_
            refine (take_pl hT _ (by decide) h1).bind fun _ s2 h2 => ?_
            exact (tail_pl hT h2).bind fun _ s3 h3 => Pl.ok h3
          · rw [stmt_if hst hw]
            refine (cond_pl hT e0).bind fun _ s1 h1 => ?_
            refine (ib s1 h1).bind fun _ s2 h2 => ?_
            split
            · rename_i hb
              have hx := at_j hT (by decide) h2 hb
              refine Pl.bind ?_ fun _ s3 h3 => Pl.ok h3
              split
              · exact is _ hx
              · exact ib _ hx
            · exact Pl.ok h2
          · rw [stmt_while hst hw]
            refine (cond_pl hT e0).bind fun _ s1 h1 => ?_
            exact (ib s1 h1).bind fun _ s2 h2 => Pl.ok h2
          · rw [stmt_repeat hst hw]
            refine (cond_pl hT e0).bind fun _ s1 h1 => ?_
            exact (ib s1 h1).bind fun _ s2 h2 => Pl.ok h2
          · rw [stmt_emit hst hw]
            refine (cond_pl hT e0).bind fun _ s1 h1 => ?_
            refine (take_pl hT _ (by decide) h1).bind fun _ s2 h2 => ?_
            exact (tail_pl hT h2).bind fun _ s3 h3 => Pl.ok h3
          · rw [stmt_spawn hst hw]
            refine (list_pl hT (fun n s h => part_pl hT h) _ e0).bind fun _ s1 h1 => ?_
            exact (take_pl hT _ (by decide) h1).bind fun _ s2 h2 => Pl.ok h2
          · rw [stmt_add hst hw]
            refine (part_pl hT e0).bind fun _ s1 h1 => ?_
            exact (take_pl hT _ (by decide) h1).bind fun _ s2 h2 => Pl.ok h2
          · rw [stmt_remove hst hw]
            refine (name_pl hT e0).bind fun _ s1 h1 => ?_
            exact (take_pl hT _ (by decide) h1).bind fun _ s2 h2 => Pl.ok h2
          · rw [stmt_die hst hw]
            exact (take_pl hT _ (by decide) e0).bind fun _ s2 h2 => Pl.ok h2
          · rw [stmt_stop hst hw]
            exact (take_pl hT _ (by decide) e0).bind fun _ s2 h2 => Pl.ok h2
          · rw [stmt_return hst hw]
            exact (tail_pl hT e0).bind fun _ s3 h3 => Pl.ok h3
    · rw [block]
      refine (open_pl hT _ (by decide) h).bind fun _ s1 h1 => ?_
      exact (il _ s1 h1).bind fun _ s2 h2 => Pl.ok h2
    · rw [stmts]
      split
      · exact Pl.ok (at_j hT (x := cRb) (by decide) h (by assumption))
      · exact (is s h).bind fun _ s1 h1 => il _ s1 h1
theorem names_pl (ws : List ByteArray) {T : List Tok} (hT : Te T) : ∀ (n most sum : Nat) (l : List Tree) (s : S), Jt T s → Pl T (names ws n most sum l s)
  | 0, most, sum, l, s, h => by rw [names]; exact Pl.out
  | n + 1, most, sum, l, s, h => by
    rw [names]
    unfold needName fail
    split
    · show Pl T (if sum = most then _ else _)
      split
      · exact no_pl h
      · refine (nameNode_pl hT h).bind fun _ s1 h1 => ?_
        split
        · rename_i hb
          have hx := at_j hT (by decide) h1 hb
          exact names_pl ws hT n most _ _ _ hx
        · exact Pl.ok h1
    · exact no_pl h
section
variable {ws : List ByteArray} {s : S} {n : Nat} {T : List Tok}
theorem clause_pl (hT : Te T) {x : ByteArray} (hx : x ≠ bs []) (h : Jt T s) : Pl T (clauseS ws n x s) := by
  unfold clauseS
  split
  · rename_i hb
    have h0 := at_j hT hx h hb
    exact (names_pl ws hT n _ _ _ _ h0).bind fun _ s1 h1 => Pl.ok h1
  · exact Pl.ok h
theorem clauses_pl (hT : Te T) : ∀ (l : List ByteArray) (r : List Tree) (s : S), (∀ x ∈ l, x ≠ bs []) → Jt T s → Pl T (clausesS ws n l r s)
  | [], r, s, _, h => Pl.ok h
  | x :: l, r, s, hx, h => by
    rw [clausesS]
    refine (clause_pl hT (hx x List.mem_cons_self) h).bind fun _ s1 h1 => ?_
    exact clauses_pl hT l _ s1 (fun y hy => hx y (List.mem_cons_of_mem _ hy)) h1
theorem param_pl (hT : Te T) (h : Jt T s) : Pl T (paramS ws n s) := by
  unfold paramS
  refine (take_pl hT _ (by decide) h).bind fun _ s1 h1 => ?_
  split
  · exact (take_pl hT _ (by decide) h1).bind fun _ s2 h2 => Pl.ok h2
  · refine (names_pl ws hT n _ _ _ _ h1).bind fun _ s2 h2 => ?_
    exact (take_pl hT _ (by decide) h2).bind fun _ s3 h3 => Pl.ok h3
theorem func_pl (hT : Te T) (h : Jt T s) : Pl T (funcS ws n s) := by
  unfold funcS fail
  split
  · split
    · exact no_pl h
    · refine Pl.bind (take_pl hT _ (by decide) (show Jt T (upF s) from h)) fun _ s1 h1 => ?_
      refine (name_pl hT h1).bind fun _ s2 h2 => ?_
      refine (param_pl hT h2).bind fun _ s3 h3 => ?_
      exact ((stmt_pl ws hT n).2.1 s3 h3).bind fun _ s4 h4 => Pl.ok h4
  · exact no_pl h
theorem system_pl (hT : Te T) (h : Jt T s) : Pl T (systemS ws n s) := by
  unfold systemS fail
  split
  · exact no_pl h
  · refine Pl.bind (take_pl hT _ (by decide) (show Jt T (upY s) from h)) fun _ s1 h1 => ?_
    refine (name_pl hT h1).bind fun _ s2 h2 => ?_
    refine (clauses_pl hT clauseWords [] s2 (by decide) h2).bind fun _ s3 h3 => ?_
    exact ((stmt_pl ws hT n).2.1 s3 h3).bind fun _ s4 h4 => Pl.ok h4
theorem member_pl (hT : Te T) (h : Jt T s) : Pl T (memberS ws n s) := by
  unfold memberS
  split
  · exact system_pl hT h
  · exact func_pl hT h
end
theorem prog_pl (ws : List ByteArray) {T : List Tok} (hT : Te T) : ∀ (n : Nat) (l : List Tree) (s : S), Jt T s → Pl T (progS ws n l s)
  | 0, l, s, h => by rw [progS]; exact Pl.out
  | n + 1, l, s, h => by
    rw [progS]
    split
    · exact Pl.ok h
    · exact (member_pl hT h).bind fun _ s1 h1 => prog_pl ws hT n _ s1 h1
end Go.Proofs.YtmfoehaeejhlpaaGreatDoor.Yn
