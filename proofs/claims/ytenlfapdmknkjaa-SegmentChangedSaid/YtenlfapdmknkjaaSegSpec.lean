/- Plain facts on segments: their encoding, its end, and that it is read as it was written. No program in this text. No condition. -/
namespace Go.Proofs.Ytenlfapdmknkjaa

/-- A segment: its tag, and its elements, each a list of components. -/
structure Seg where
  tag : List UInt8
  els : List (List (List UInt8))
def noSeg : Seg := ⟨[], []⟩

/-- Is a byte preceded by a question mark? -/
def spB (c : UInt8) : Bool := c == 43 || (c == 58 || (c == 63 || c == 39))
def esc : List UInt8 → List UInt8
  | [] => []
  | c :: r => if spB c then 63 :: c :: esc r else c :: esc r
def encE : List (List UInt8) → List UInt8
  | [] => []
  | x :: r => esc x ++ r.flatMap fun y => 58 :: esc y
def encEls (E : List (List (List UInt8))) : List UInt8 := E.flatMap fun e => 43 :: encE e
def bodyS (s : Seg) : List UInt8 := s.tag ++ encEls s.els
def encS (s : Seg) : List UInt8 := bodyS s ++ [39]
theorem esc_append : ∀ a b : List UInt8, esc (a ++ b) = esc a ++ esc b
  | [], b => rfl
  | c :: a, b => by
    show (if spB c then 63 :: c :: esc (a ++ b) else c :: esc (a ++ b)) = (if spB c then 63 :: c :: esc a else c :: esc a) ++ esc b
    rw [esc_append a b]
    split <;> rfl
theorem esc_len : ∀ x : List UInt8, (esc x).length ≤ 2 * x.length
  | [] => Nat.le_refl _
  | c :: x => by
    have := esc_len x
    show (if spB c then 63 :: c :: esc x else c :: esc x).length ≤ 2 * (x.length + 1)
    split <;> simp <;> omega

/-- The components from number k on. -/
def moreE : Nat → List (List UInt8) → List UInt8
  | _, [] => []
  | k, x :: r => (if k = 0 then [] else [58]) ++ (esc x ++ moreE (k + 1) r)
theorem moreE_pos : ∀ (r : List (List UInt8)) (k : Nat), moreE (k + 1) r = r.flatMap fun y => 58 :: esc y
  | [], _ => rfl
  | x :: r, k => by
    rw [List.flatMap_cons, ← moreE_pos r (k + 1)]
    rfl
theorem encE_more (e : List (List UInt8)) : encE e = moreE 0 e := by
  cases e with
  | nil => rfl
  | cons x r =>
    show esc x ++ r.flatMap (fun y => 58 :: esc y) = [] ++ (esc x ++ moreE 1 r)
    rw [← moreE_pos r 0]
    rfl
theorem els_step {E : List (List (List UInt8))} {i : Nat} {e : List (List UInt8)} (h : E[i]? = some e) : encEls (E.drop i) = [43] ++ (moreE 0 (e.drop 0) ++ encEls (E.drop (i + 1))) := by
  obtain ⟨hi, rfl⟩ := List.getElem?_eq_some_iff.1 h
  rw [List.drop_eq_getElem_cons hi, List.drop_zero, ← encE_more]
  rfl
theorem more_step {e : List (List UInt8)} {k : Nat} {x : List UInt8} (h : e[k]? = some x) : moreE k (e.drop k) = (if k = 0 then [] else [58]) ++ (esc (x.drop 0) ++ moreE (k + 1) (e.drop (k + 1))) := by
  obtain ⟨hi, rfl⟩ := List.getElem?_eq_some_iff.1 h
  rw [List.drop_eq_getElem_cons hi, List.drop_zero]
  rfl
theorem esc_step {x : List UInt8} {j : Nat} {c : UInt8} (h : x[j]? = some c) : esc (x.drop j) = (if spB c then [63] else []) ++ ([c] ++ esc (x.drop (j + 1))) := by
  obtain ⟨hi, rfl⟩ := List.getElem?_eq_some_iff.1 h
  rw [List.drop_eq_getElem_cons hi]
  show (if spB x[j] then 63 :: x[j] :: esc _ else x[j] :: esc _) = _
  split <;> rfl
/-- Letters and digits of a tag. -/
def letB (c : UInt8) : Bool := decide (65 ≤ c.toNat) && decide (c.toNat ≤ 90)
def digB (c : UInt8) : Bool := decide (48 ≤ c.toNat) && decide (c.toNat ≤ 57)
def tagB (t : List UInt8) : Bool :=
  match t with
  | [a, b, c] => letB a && ((letB b || digB b) && (letB c || digB c))
  | _ => false
/-- Is an element too long? -/
def longE (e : List (List UInt8)) : Bool := decide (100 < e.length) || e.any fun x => decide (1000 < x.length)
def longB (E : List (List (List UInt8))) : Bool := decide (100 < E.length) || E.any longE
/-- Is the last component of an element empty? -/
def lastE (e : List (List UInt8)) : Bool :=
  match e.getLast? with
  | some [] => true
  | _ => false
def badB : List (List (List UInt8)) → Bool
  | [] => false
  | [e] => e.isEmpty || lastE e
  | e :: f :: r => lastE e || badB (f :: r)
/-- The error of a segment. -/
def segE (s : Seg) : Int := if tagB s.tag then (if longB s.els then 8 else if badB s.els then 1 else 0) else 1

theorem seg_ok {s : Seg} (h : segE s = 0) : tagB s.tag = true ∧ longB s.els = false ∧ badB s.els = false := by
  unfold segE at h
  by_cases h1 : tagB s.tag = true
  · rw [if_pos h1] at h
    by_cases h2 : longB s.els = true
    · rw [if_pos h2] at h; cases h
    · rw [if_neg h2] at h
      by_cases h3 : badB s.els = true
      · rw [if_pos h3] at h; cases h
      · exact ⟨h1, by simpa using h2, by simpa using h3⟩
  · rw [if_neg h1] at h; cases h

/-- Where a segment ends: the first apostrophe outside of a pair. -/
def endF : List UInt8 → Option Nat
  | [] => none
  | [c] => if c = 39 then some 0 else none
  | c :: d :: r => if c = 39 then some 0 else if c = 63 then (endF r).map (· + 2) else (endF (d :: r)).map (· + 1)
theorem end_hit (r : List UInt8) : endF (39 :: r) = some 0 := by cases r <;> rfl
theorem end_pair (c : UInt8) (r : List UInt8) : endF (63 :: c :: r) = (endF r).map (· + 2) := rfl
theorem end_step {c : UInt8} (h1 : c ≠ 39) (h2 : c ≠ 63) (r : List UInt8) : endF (c :: r) = (endF r).map (· + 1) := by
  cases r with
  | nil => exact if_neg h1
  | cons d r => exact (if_neg h1).trans (if_neg h2)
theorem end_last : endF [63] = none := rfl

/-- Bytes in which no segment ends, and which close all their pairs. -/
def Thru (l : List UInt8) : Prop := ∀ r, endF (l ++ r) = (endF r).map (· + l.length)
theorem Thru.nil : Thru [] := fun r => by
  show endF r = (endF r).map (· + 0)
  cases endF r <;> rfl
theorem Thru.append {a b : List UInt8} (ha : Thru a) (hb : Thru b) : Thru (a ++ b) := fun r => by
  rw [List.append_assoc, ha, hb]
  cases endF r with
  | none => rfl
  | some n => simp; omega
theorem Thru.one {c : UInt8} (h1 : c ≠ 39) (h2 : c ≠ 63) : Thru [c] := fun r => end_step h1 h2 r
theorem Thru.pair (c : UInt8) : Thru [63, c] := fun r => end_pair c r
theorem Thru.cons {c : UInt8} {l : List UInt8} (h1 : c ≠ 39) (h2 : c ≠ 63) (h : Thru l) : Thru (c :: l) := Thru.append (Thru.one h1 h2) h
theorem sp_not {c : UInt8} (h : spB c = false) : c ≠ 43 ∧ c ≠ 58 ∧ c ≠ 63 ∧ c ≠ 39 := by
  unfold spB at h
  simp at h
  exact h
theorem Thru.esc : ∀ x : List UInt8, Thru (esc x)
  | [] => Thru.nil
  | c :: x => by
    show Thru (if spB c then 63 :: c :: Go.Proofs.Ytenlfapdmknkjaa.esc x else c :: Go.Proofs.Ytenlfapdmknkjaa.esc x)
    cases hc : spB c with
    | true => exact Thru.append (Thru.pair c) (Thru.esc x)
    | false =>
      obtain ⟨_, _, h3, h4⟩ := sp_not hc
      exact Thru.cons h4 h3 (Thru.esc x)
theorem Thru.flat {α : Type} (f : α → List UInt8) (h : ∀ a, Thru (f a)) : ∀ l : List α, Thru (l.flatMap f)
  | [] => Thru.nil
  | a :: l => by
    rw [List.flatMap_cons]
    exact Thru.append (h a) (Thru.flat f h l)
theorem Thru.encE : ∀ e, Thru (encE e)
  | [] => Thru.nil
  | x :: r => Thru.append (Thru.esc x) (Thru.flat _ (fun y => Thru.cons (by decide) (by decide) (Thru.esc y)) r)
theorem Thru.encEls (E : List (List (List UInt8))) : Thru (encEls E) := Thru.flat _ (fun e => Thru.cons (by decide) (by decide) (Thru.encE e)) E
theorem let_plain {c : UInt8} (h : (letB c || digB c) = true) : spB c = false := by
  unfold letB digB at h
  simp at h
  unfold spB
  simp only [Bool.or_eq_false_iff, beq_eq_false_iff_ne, ne_eq]
  refine ⟨?_, ?_, ?_, ?_⟩ <;>
    (intro e; subst e; simp at h)
theorem tag_shape {t : List UInt8} (h : tagB t = true) : ∃ a b c, t = [a, b, c] ∧ spB a = false ∧ spB b = false ∧ spB c = false := by
  match t, h with
  | [a, b, c], h =>
    unfold tagB at h
    simp only [Bool.and_eq_true] at h
    exact ⟨a, b, c, rfl, let_plain (by rw [h.1]; rfl), let_plain h.2.1, let_plain h.2.2⟩
theorem Thru.tag {t : List UInt8} (h : tagB t = true) : Thru t := by
  obtain ⟨a, b, c, rfl, h1, h2, h3⟩ := tag_shape h
  obtain ⟨_, _, a3, a4⟩ := sp_not h1
  obtain ⟨_, _, b3, b4⟩ := sp_not h2
  obtain ⟨_, _, c3, c4⟩ := sp_not h3
  exact Thru.cons a4 a3 (Thru.cons b4 b3 (Thru.one c4 c3))
theorem end_enc {s : Seg} (h : tagB s.tag = true) (r : List UInt8) : endF (encS s ++ r) = some (bodyS s).length := by
  have h2 : Thru (bodyS s) := Thru.append (Thru.tag h) (Thru.encEls s.els)
  unfold encS
  rw [List.append_assoc, h2]
  show Option.map _ (endF (39 :: r)) = _
  rw [end_hit]
  simp

/-- The bytes of a segment without its apostrophe, taken apart. -/
inductive Tok where
  | lit (c : UInt8)
  | plus
  | colon
def toks : List UInt8 → List Tok
  | [] => []
  | [c] => [if c = 43 then .plus else if c = 58 then .colon else .lit c]
  | c :: d :: r => if c = 63 then .lit d :: toks r else (if c = 43 then .plus else if c = 58 then .colon else .lit c) :: toks (d :: r)
def tokOf (c : UInt8) : Tok := if c = 43 then .plus else if c = 58 then .colon else .lit c
theorem toks_pair (c : UInt8) (r : List UInt8) : toks (63 :: c :: r) = .lit c :: toks r := rfl
theorem toks_one (c : UInt8) : toks [c] = [tokOf c] := rfl
theorem toks_step {c : UInt8} (h : c ≠ 63) (r : List UInt8) : toks (c :: r) = tokOf c :: toks r := by
  cases r with
  | nil => rfl
  | cons d r => exact if_neg h
/-- An element whose last word is known. -/
def closeE (cur : List (List UInt8)) (word : List UInt8) : List (List UInt8) := if word = [] ∧ cur = [] then [] else cur ++ [word]
def rdT (tag : List UInt8) (L : List (List (List UInt8))) (cur : List (List UInt8)) (word : List UInt8) : List Tok → Seg
  | [] => ⟨tag, L ++ [closeE cur word]⟩
  | .lit c :: r => rdT tag L cur (word ++ [c]) r
  | .plus :: r => rdT tag (L ++ [closeE cur word]) [] [] r
  | .colon :: r => rdT tag L (cur ++ [word]) [] r
def rd1 (word : List UInt8) : List Tok → Seg
  | [] => ⟨word, []⟩
  | .lit c :: r => rd1 (word ++ [c]) r
  | .plus :: r => rdT word [] [] [] r
  | .colon :: _ => ⟨word, []⟩
def readF (b : List UInt8) : Seg := rd1 [] (toks b)

theorem toks_esc : ∀ (x r : List UInt8), toks (esc x ++ r) = x.map Tok.lit ++ toks r
  | [], r => rfl
  | c :: x, r => by
    show toks ((if spB c then 63 :: c :: esc x else c :: esc x) ++ r) = Tok.lit c :: (x.map Tok.lit ++ toks r)
    cases hc : spB c with
    | true =>
      show toks (63 :: c :: (esc x ++ r)) = _
      rw [toks_pair, toks_esc x r]
    | false =>
      obtain ⟨h1, h2, h3, h4⟩ := sp_not hc
      show toks (c :: (esc x ++ r)) = _
      rw [toks_step h3, toks_esc x r]
      unfold tokOf
      rw [if_neg h1, if_neg h2]
theorem rdT_lits (tag : List UInt8) (L : List (List (List UInt8))) (cur : List (List UInt8)) : ∀ (x word : List UInt8) (t : List Tok), rdT tag L cur word (x.map Tok.lit ++ t) = rdT tag L cur (word ++ x) t
  | [], word, t => by rw [List.append_nil]; rfl
  | c :: x, word, t => by
    show rdT tag L cur (word ++ [c]) (x.map Tok.lit ++ t) = _
    rw [rdT_lits tag L cur x, List.append_assoc]
    rfl
theorem rd1_lits : ∀ (x word : List UInt8) (t : List Tok), rd1 word (x.map Tok.lit ++ t) = rd1 (word ++ x) t
  | [], word, t => by rw [List.append_nil]; rfl
  | c :: x, word, t => by
    show rd1 (word ++ [c]) (x.map Tok.lit ++ t) = _
    rw [rd1_lits x, List.append_assoc]
    rfl
/-- What is left behind an element: nothing, or a plus sign. -/
def Ends (t : List Tok) : Prop := t = [] ∨ ∃ r, t = .plus :: r
theorem toks_plus (l : List UInt8) : toks (43 :: l) = .plus :: toks l := toks_step (by decide) l
theorem toks_colon (l : List UInt8) : toks (58 :: l) = .colon :: toks l := toks_step (by decide) l
/-- Components behind the first. -/
theorem rdT_more (tag : List UInt8) (L : List (List (List UInt8))) : ∀ (r cur : List (List UInt8)) (w t : List UInt8), (match (w :: r).getLast? with | some [] => true | _ => false) = false →
    ∃ cur' w', cur' ++ [w'] = cur ++ (w :: r) ∧ w' ≠ [] ∧ rdT tag L cur w (toks ((r.flatMap fun y => 58 :: esc y) ++ t)) = rdT tag L cur' w' (toks t)
  | [], cur, w, t, h => ⟨cur, w, rfl, fun e => by subst e; simp at h, rfl⟩
  | y :: r, cur, w, t, h => by
    obtain ⟨cur', w', h1, h2, h3⟩ := rdT_more tag L r (cur ++ [w]) y t (by
      rw [List.getLast?_cons_cons] at h
      exact h)
    refine ⟨cur', w', by rw [h1]; simp, h2, ?_⟩
    rw [← h3, List.flatMap_cons]
    show rdT tag L cur w (toks (58 :: (esc y ++ r.flatMap (fun y => 58 :: esc y) ++ t))) = _
    rw [toks_colon, List.append_assoc, toks_esc]
    show rdT tag L (cur ++ [w]) [] (y.map Tok.lit ++ _) = _
    rw [rdT_lits]
    rfl
/-- An element that is read to its end. -/
theorem rdT_el (tag : List UInt8) (L : List (List (List UInt8))) (e : List (List UInt8)) (h : lastE e = false) (t : List UInt8) :
    ∃ cur w, closeE cur w = e ∧ rdT tag L [] [] (toks (encE e ++ t)) = rdT tag L cur w (toks t) := by
  cases e with
  | nil => exact ⟨[], [], rfl, rfl⟩
  | cons x r =>
    obtain ⟨cur', w', h1, h2, h3⟩ := rdT_more tag L r [] x t h
    refine ⟨cur', w', ?_, ?_⟩
    · unfold closeE
      rw [if_neg (fun hh => h2 hh.1), h1]
      rfl
    · show rdT tag L [] [] (toks ((esc x ++ r.flatMap fun y => 58 :: esc y) ++ t)) = _
      rw [List.append_assoc, toks_esc, rdT_lits, ← h3]
      rfl
theorem bad_cons {e : List (List UInt8)} {r : List (List (List UInt8))} (h : badB (e :: r) = false) : lastE e = false ∧ badB r = false := by
  cases r with
  | nil =>
    have : (e.isEmpty || lastE e) = false := h
    simp only [Bool.or_eq_false_iff] at this
    exact ⟨this.2, rfl⟩
  | cons f r =>
    have : (lastE e || badB (f :: r)) = false := h
    simp only [Bool.or_eq_false_iff] at this
    exact this
theorem rdT_els (tag : List UInt8) : ∀ (E L : List (List (List UInt8))) (cur : List (List UInt8)) (w : List UInt8), badB E = false → rdT tag L cur w (toks (encEls E)) = ⟨tag, L ++ [closeE cur w] ++ E⟩
  | [], L, cur, w, _ => by rw [List.append_nil]; rfl
  | e :: E, L, cur, w, h => by
    obtain ⟨h1, h2⟩ := bad_cons h
    obtain ⟨cur', w', h3, h4⟩ := rdT_el tag (L ++ [closeE cur w]) e h1 (encEls E)
    unfold encEls at h4 ⊢
    rw [List.flatMap_cons]
    show rdT tag L cur w (toks (43 :: (encE e ++ E.flatMap fun e => 43 :: encE e))) = _
    rw [toks_plus]
    show rdT tag (L ++ [closeE cur w]) [] [] (toks (encE e ++ E.flatMap fun e => 43 :: encE e)) = _
    rw [h4]
    have ih := rdT_els tag E (L ++ [closeE cur w]) cur' w' h2
    unfold encEls at ih
    rw [ih, h3]
    simp
/-- What was written is read as it was. -/
theorem read_body {s : Seg} (h1 : tagB s.tag = true) (h2 : badB s.els = false) : readF (bodyS s) = s := by
  obtain ⟨a, b, c, ht, ha, hb, hc⟩ := tag_shape h1
  have ht2 : ∀ r, toks (s.tag ++ r) = s.tag.map Tok.lit ++ toks r := fun r => by
    have : esc s.tag = s.tag := by
      rw [ht]
      show (if spB a then _ else a :: (if spB b then _ else b :: (if spB c then _ else [c]))) = _
      rw [ha, hb, hc]
      rfl
    have e := toks_esc s.tag r
    rw [this] at e
    exact e
  unfold readF bodyS
  rw [ht2, rd1_lits]
  obtain ⟨tag, els⟩ := s
  cases els with
  | nil => rfl
  | cons e E =>
    have h3 := bad_cons h2
    obtain ⟨cur', w', h5, h4⟩ := rdT_el tag [] e h3.1 (encEls E)
    show rd1 ([] ++ tag) (toks (43 :: encE e ++ encEls E)) = _
    rw [List.cons_append, toks_plus]
    show rdT ([] ++ tag) [] [] [] (toks (encE e ++ encEls E)) = _
    rw [List.nil_append, h4, rdT_els tag E [] cur' w' h3.2, h5]
    rfl

/-- The first segment of some bytes, how many bytes it has, and the error. -/
def nextF (b : List UInt8) : Seg × Nat × Int :=
  match endF b with
  | none => (noSeg, 0, 5)
  | some n => if segE (readF (b.take n)) = 0 ∧ encS (readF (b.take n)) = b.take (n + 1) then (readF (b.take n), n + 1, 0) else (noSeg, 0, 4)
theorem next_enc {s : Seg} (h : segE s = 0) (r : List UInt8) : nextF (encS s ++ r) = (s, (encS s).length, 0) := by
  obtain ⟨h1, _, h3⟩ := seg_ok h
  have hr := read_body h1 h3
  have ht : (encS s ++ r).take (bodyS s).length = bodyS s := by
    unfold encS
    rw [List.append_assoc, List.take_left']
    rfl
  have hl : (encS s).length = (bodyS s).length + 1 := by unfold encS; simp
  have ht2 : (encS s ++ r).take ((bodyS s).length + 1) = encS s := by
    rw [← hl, List.take_left']
    rfl
  unfold nextF
  rw [end_enc h1 r]
  simp only
  rw [ht, hr, ht2, if_pos ⟨h, rfl⟩, hl]
theorem next_ok {b : List UInt8} {s : Seg} {n : Nat} (h : nextF b = (s, n, 0)) : segE s = 0 ∧ encS s = b.take n ∧ 0 < n ∧ n ≤ b.length := by
  unfold nextF at h
  cases he : endF b with
  | none => rw [he] at h; simp at h
  | some k =>
    rw [he] at h
    simp only at h
    by_cases hc : segE (readF (b.take k)) = 0 ∧ encS (readF (b.take k)) = b.take (k + 1)
    · rw [if_pos hc] at h
      simp only [Prod.mk.injEq, and_true] at h
      obtain ⟨rfl, rfl⟩ := h
      refine ⟨hc.1, hc.2, by omega, ?_⟩
      have h1 := congrArg List.length hc.2
      have hr := seg_ok hc.1
      by_cases hl : k + 1 ≤ b.length
      · exact hl
      · exfalso
        have e2 := end_enc hr.1 []
        rw [List.append_nil, hc.2, List.take_of_length_le (show b.length ≤ k + 1 by omega), he] at e2
        simp only [Option.some.injEq] at e2
        have h3 : (encS (readF (b.take k))).length = (bodyS (readF (b.take k))).length + 1 := by unfold encS; simp
        rw [List.take_of_length_le (show b.length ≤ k + 1 by omega)] at h1
        omega
    · rw [if_neg hc] at h; simp at h
theorem next_kinds (b : List UInt8) : (nextF b).2.2 = 0 ∨ ((nextF b).1 = noSeg ∧ (nextF b).2.1 = 0 ∧ (nextF b).2.2 ≠ 0) := by
  unfold nextF
  cases endF b with
  | none => exact .inr ⟨rfl, rfl, by simp⟩
  | some k =>
    simp only
    split
    · exact .inl rfl
    · exact .inr ⟨rfl, rfl, by decide⟩

/-- The segments of some bytes: how far they were read, and the error. -/
def decF : Nat → List UInt8 → Nat → List Seg → List Seg × Nat × Int
  | 0, _, at_, acc => (acc, at_, 0)
  | f + 1, b, at_, acc => if b = [] then (acc, at_, 0) else if (nextF b).2.2 = 0 then decF f (b.drop (nextF b).2.1) (at_ + (nextF b).2.1) (acc ++ [(nextF b).1]) else ([], at_, (nextF b).2.2)
def decodeF (b : List UInt8) : List Seg × Nat × Int := decF b.length b 0 []
theorem dec_nil (f at_ : Nat) (acc : List Seg) : decF f [] at_ acc = (acc, at_, 0) := by
  cases f with
  | zero => rfl
  | succ f => exact if_pos rfl
theorem dec_ok {f at_ : Nat} {b : List UInt8} {acc : List Seg} (hb : b ≠ []) (h : (nextF b).2.2 = 0) : decF (f + 1) b at_ acc = decF f (b.drop (nextF b).2.1) (at_ + (nextF b).2.1) (acc ++ [(nextF b).1]) := (if_neg hb).trans (if_pos h)
theorem dec_bad {f at_ : Nat} {b : List UInt8} {acc : List Seg} (hb : b ≠ []) (h : (nextF b).2.2 ≠ 0) : decF (f + 1) b at_ acc = ([], at_, (nextF b).2.2) := (if_neg hb).trans (if_neg h)
theorem enc_pos (s : Seg) : 0 < (encS s).length := by unfold encS; simp
/-- What was encoded is decoded. -/
theorem dec_enc : ∀ (L : List Seg) (f at_ : Nat) (acc : List Seg), (∀ s ∈ L, segE s = 0) → (L.flatMap encS).length ≤ f → decF f (L.flatMap encS) at_ acc = (acc ++ L, at_ + (L.flatMap encS).length, 0)
  | [], f, at_, acc, _, _ => by
    show decF f [] at_ acc = _
    rw [dec_nil]
    simp
  | s :: L, f, at_, acc, hv, hf => by
    have h0 := hv s (List.mem_cons_self ..)
    have hn := next_enc h0 (L.flatMap encS)
    have hp := enc_pos s
    rw [List.flatMap_cons] at hf ⊢
    rw [List.length_append] at hf
    obtain ⟨g, rfl⟩ : ∃ g, f = g + 1 := ⟨f - 1, by omega⟩
    have hne : encS s ++ L.flatMap encS ≠ [] := by
      intro e
      have := congrArg List.length e
      rw [List.length_append, List.length_nil] at this
      omega
    rw [dec_ok hne (by rw [hn]), hn]
    simp only
    rw [List.drop_left', dec_enc L g _ _ (fun x hx => hv x (List.mem_cons_of_mem _ hx)) (by omega)]
    · rw [List.length_append]
      simp only [Prod.mk.injEq, and_true]
      exact ⟨by simp, by omega⟩
    · rfl
/-- What is decoded without an error was encoded so. -/
theorem dec_spec : ∀ (f : Nat) (b : List UInt8) (at_ : Nat) (acc L : List Seg) (n : Nat), b.length ≤ f → decF f b at_ acc = (L, n, 0) → ∃ M, L = acc ++ M ∧ (∀ s ∈ M, segE s = 0) ∧ M.flatMap encS = b ∧ n = at_ + b.length
  | 0, b, at_, acc, L, n, hf, h => by
    obtain rfl : b = [] := List.eq_nil_of_length_eq_zero (by omega)
    rw [dec_nil] at h
    simp only [Prod.mk.injEq, and_true] at h
    obtain ⟨rfl, rfl⟩ := h
    exact ⟨[], by simp, fun s hs => absurd hs (by simp), rfl, by simp⟩
  | f + 1, b, at_, acc, L, n, hf, h => by
    by_cases hb : b = []
    · subst hb
      rw [dec_nil] at h
      simp only [Prod.mk.injEq, and_true] at h
      obtain ⟨rfl, rfl⟩ := h
      exact ⟨[], by simp, fun s hs => absurd hs (by simp), rfl, by simp⟩
    · by_cases he : (nextF b).2.2 = 0
      · rw [dec_ok hb he] at h
        have hk := next_ok (b := b) (s := (nextF b).1) (n := (nextF b).2.1) (by rw [← he])
        obtain ⟨h1, h2, h3, h4⟩ := hk
        obtain ⟨M, m1, m2, m3, m4⟩ := dec_spec f _ _ _ _ _ (by rw [List.length_drop]; omega) h
        refine ⟨(nextF b).1 :: M, by rw [m1]; simp, fun s hs => ?_, ?_, ?_⟩
        · rcases List.mem_cons.1 hs with rfl | hs
          · exact h1
          · exact m2 s hs
        · rw [List.flatMap_cons, m3, h2]
          exact List.take_append_drop _ _
        · rw [m4, List.length_drop]
          omega
      · rw [dec_bad hb he] at h
        simp only [Prod.mk.injEq] at h
        exact absurd h.2.2 he

/-- The encoding of some segments, or the error of the first that has one. -/
def encF (acc : List UInt8) : List Seg → List UInt8 × Int
  | [] => (acc, 0)
  | s :: L => if segE s = 0 then encF (acc ++ encS s) L else ([], segE s)
theorem encF_ok : ∀ (L : List Seg) (acc : List UInt8), (∀ s ∈ L, segE s = 0) → encF acc L = (acc ++ L.flatMap encS, 0)
  | [], acc, _ => by rw [List.flatMap_nil, List.append_nil]; rfl
  | s :: L, acc, h => by
    show (if segE s = 0 then encF (acc ++ encS s) L else ([], segE s)) = _
    rw [if_pos (h s (List.mem_cons_self ..)), encF_ok L _ (fun x hx => h x (List.mem_cons_of_mem _ hx)), List.flatMap_cons, List.append_assoc]
/-- A valid segment is not too long. -/
theorem flat_len {α : Type} (f : α → List UInt8) (m : Nat) : ∀ l : List α, (∀ a ∈ l, (f a).length ≤ m) → (l.flatMap f).length ≤ l.length * m
  | [], _ => by simp
  | a :: l, h => by
    rw [List.flatMap_cons, List.length_append, List.length_cons, Nat.succ_mul]
    have h1 := h a (List.mem_cons_self ..)
    have h2 := flat_len f m l (fun b hb => h b (List.mem_cons_of_mem _ hb))
    omega
theorem encE_len {e : List (List UInt8)} (h : longE e = false) : (encE e).length ≤ 200100 := by
  unfold longE at h
  simp only [Bool.or_eq_false_iff, decide_eq_false_iff_not, List.any_eq_false, decide_eq_true_eq] at h
  obtain ⟨h1, h2⟩ := h
  cases e with
  | nil => exact Nat.zero_le _
  | cons x r =>
    show (esc x ++ r.flatMap fun y => 58 :: esc y).length ≤ _
    rw [List.length_append]
    have e1 := esc_len x
    have e2 := h2 x (List.mem_cons_self ..)
    have e3 := flat_len (fun y => 58 :: esc y) 2001 r (fun y hy => by
      have := esc_len y
      have := h2 y (List.mem_cons_of_mem _ hy)
      simp
      omega)
    simp at h1
    omega
theorem encS_len {s : Seg} (h : segE s = 0) : (encS s).length ≤ 30000000 := by
  obtain ⟨h1, h2, _⟩ := seg_ok h
  obtain ⟨a, b, c, ht, _⟩ := tag_shape h1
  unfold longB at h2
  simp only [Bool.or_eq_false_iff, decide_eq_false_iff_not, List.any_eq_false] at h2
  have e1 := flat_len (fun e => 43 :: encE e) 200101 s.els (fun e he => by
    have := encE_len (by simpa using h2.2 e he : longE e = false)
    simp
    omega)
  unfold encS bodyS encEls
  rw [List.length_append, List.length_append, ht]
  simp only [List.length_cons, List.length_nil]
  omega
theorem encF_step (acc : List UInt8) {L : List Seg} {i : Nat} {s : Seg} (h : L[i]? = some s) : encF acc (L.drop i) = if segE s = 0 then encF (acc ++ encS s) (L.drop (i + 1)) else ([], segE s) := by
  obtain ⟨hi, rfl⟩ := List.getElem?_eq_some_iff.1 h
  rw [List.drop_eq_getElem_cons hi]
  rfl
end Go.Proofs.Ytenlfapdmknkjaa
