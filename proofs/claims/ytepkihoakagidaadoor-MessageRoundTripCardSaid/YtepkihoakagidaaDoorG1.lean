/- Plain facts on two-word numbers, and small helpers for the walks of the package exact and of its reference. No condition.
Plain facts on segments: their encoding, its end, and that it is read as it was written. No program in this text. No condition.
Plain facts on messages: their error, their segments, that they are read as they were written. No program in this text. No condition.
Plain facts on messages: their segments are valid, their encodings differ, what is parsed. No program in this text. No condition.
Plain facts: how the landed package message reads segments, and that this is what Parse asks. No program in this text. No condition.
The last step of a law's row: what was there before the call is as it was, and the call returned true. No condition.
The last step of a law's row, for arguments of whatever types: the arguments read behind the call as they read before, because nothing of the old memory has turned. No condition.
Rows of cells, lists of texts, lists of lists of texts in memory: when they read so, that they stay, and that a law's arguments are such. No condition.
What the package-level variables of Go's library hold while a law of layer 7 runs: the powers of ten, the two errors of strconv; that this stays so; what Itoa and Atoi return then. Condition of Atoi: a text that a machine may hold.
The row of a law that reads listed variables: they are listed with what they hold, so the law's walk may use it. No condition of ours.
The row of a law of layer 7 that reads the library's variables: they are listed with what they hold, so the law's walk may use it. No condition of ours.
Lists of segments in memory. No condition.
Bytes in a row of the call's own, also one that a text was converted to: they are appended to, and read. No condition.
What Digits of the reference of layer 2 returns, for every number that is not negative and no greater than 10^12.
What Number, element, in, Code and Country of the references return, for every input (numbers up to 10^12). No condition.
What Within of the made inputs returns, for every number. Condition: the bound is above 0 and no great number.
append onto a row of the call's own, as one step of a region that draws its order. No condition. -/
import Derived.Test.YtepkihoakagidaaDoorRows
import Derived.WalkKit
import Derived.WalkSpells
import Derived.WalkLawsBesides
import Derived.Lib.Hide
import Derived.Lib.ItoaNum
import Derived.Lib.AtoiTie
import Derived.ProofKit
import Derived.OpenShut
import Derived.Below
import Derived.ChangeSame
import Derived.Carry
import Derived.ChangeMaps5
import Derived.ChangeSlices
import Derived.Deep.Strs
import Derived.Laws.OwnMore
import Derived.Test.YtepkihoakagidaaDoorZShelfText
import Derived.Lib.LaidTab
import Derived.Lib.ConvBytes
import Derived.Lib.ItoaMem
import Derived.Stop.LaidErr
import Derived.Shelf.Vars
import Derived.LaidMore
import Derived.Lay
import Derived.PinnedBridge
import Derived.SevenTiedAt
import Derived.Stop.Joined
import Derived.Lib.AppendStr
import Derived.Laws.IdiomStrings
import Derived.Deep.RegionLaw
namespace Go.Proofs.YtepkihoakagidaaDoor
open Go.RowKit

theorem bcell {W w1 : World} (hb : Below W.heap.size W w1) : (∀ b o, b < W.heap.size → w1.cell? ⟨b, o, none⟩ = W.cell? ⟨b, o, none⟩) ∧ (∀ b o, b < W.heap.size → w1.frozen? ⟨b, o, none⟩ = W.frozen? ⟨b, o, none⟩) :=
  ⟨fun b o h => hb.cell (p := ⟨b, o, none⟩) h, fun b o h => hb.frozen (p := ⟨b, o, none⟩) h⟩
theorem below_drewN {B : Nat} {a w : World} (h : Below B a w) (n : Nat) : Below B a (w.drewN n) := ⟨h.os, h.tape, h.output, h.size, h.block⟩

theorem int_eq {k : IntKind} {a b : Int} (h : a = b) : Value.int k a = Value.int k b := by rw [h]
/-- The words of a sum of two-word numbers, and whether it is too great. -/
def sLo (al bl : Nat) : Nat := (al + bl) % 18446744073709551616
def sHi (ah al bh bl : Nat) : Nat := (ah + bh + (al + bl) / 18446744073709551616) % 18446744073709551616
def sOv (ah al bh bl : Nat) : Bool := decide (18446744073709551616 ≤ ah + bh + (al + bl) / 18446744073709551616)
/-- The words of a product. -/
def hiN (a b : Nat) : Nat := a * b / 18446744073709551616
def loN (a b : Nat) : Nat := a * b % 18446744073709551616

theorem hiN_lt {a b : Nat} (ha : a < 18446744073709551616) (hb : b < 18446744073709551616) : hiN a b < 18446744073709551616 := by
  unfold hiN
  exact Nat.div_lt_of_lt_mul (Nat.mul_lt_mul'' ha hb)
theorem loN_lt (a b : Nat) : loN a b < 18446744073709551616 := by unfold loN; omega
theorem hilo (a b : Nat) : hiN a b * 18446744073709551616 + loN a b = a * b := by unfold hiN loN; omega
end Go.Proofs.YtepkihoakagidaaDoor
namespace Go.Proofs.YtepkihoakagidaaDoor

/-- A segment: its tag, and its elements, each a list of components. -/
structure Seg where
  tag : List UInt8
  els : List (List (List UInt8))
def noSeg : Seg := ⟨[], []⟩

/-- Is a byte preceded by a question mark? -/
def spB (c : UInt8) : Bool := c == 43 || (c == 58 || (c == 63 || c == 39))
def esc : List UInt8 → List UInt8
  | [] => []
  | c :: r => if spB c then 63 :: c :: esc r else c :: esc r
def encE : List (List UInt8) → List UInt8
  | [] => []
  | x :: r => esc x ++ r.flatMap fun y => 58 :: esc y
def encEls (E : List (List (List UInt8))) : List UInt8 := E.flatMap fun e => 43 :: encE e
def bodyS (s : Seg) : List UInt8 := s.tag ++ encEls s.els
def encS (s : Seg) : List UInt8 := bodyS s ++ [39]
theorem esc_append : ∀ a b : List UInt8, esc (a ++ b) = esc a ++ esc b
  | [], b => rfl
  | c :: a, b => by
    show (if spB c then 63 :: c :: esc (a ++ b) else c :: esc (a ++ b)) = (if spB c then 63 :: c :: esc a else c :: esc a) ++ esc b
    rw [esc_append a b]
    split <;> rfl
theorem esc_len : ∀ x : List UInt8, (esc x).length ≤ 2 * x.length
  | [] => Nat.le_refl _
  | c :: x => by
    have := esc_len x
    show (if spB c then 63 :: c :: esc x else c :: esc x).length ≤ 2 * (x.length + 1)
    split <;> simp <;> omega

/-- The components from number k on. -/
def moreE : Nat → List (List UInt8) → List UInt8
  | _, [] => []
  | k, x :: r => (if k = 0 then [] else [58]) ++ (esc x ++ moreE (k + 1) r)
theorem moreE_pos : ∀ (r : List (List UInt8)) (k : Nat), moreE (k + 1) r = r.flatMap fun y => 58 :: esc y
  | [], _ => rfl
  | x :: r, k => by
    rw [List.flatMap_cons, ← moreE_pos r (k + 1)]
    rfl
theorem encE_more (e : List (List UInt8)) : encE e = moreE 0 e := by
  cases e with
  | nil => rfl
  | cons x r =>
    show esc x ++ r.flatMap (fun y => 58 :: esc y) = [] ++ (esc x ++ moreE 1 r)
    rw [← moreE_pos r 0]
    rfl
theorem els_step {E : List (List (List UInt8))} {i : Nat} {e : List (List UInt8)} (h : E[i]? = some e) : encEls (E.drop i) = [43] ++ (moreE 0 (e.drop 0) ++ encEls (E.drop (i + 1))) := by
  obtain ⟨hi, rfl⟩ := List.getElem?_eq_some_iff.1 h
  rw [List.drop_eq_getElem_cons hi, List.drop_zero, ← encE_more]
  rfl
theorem more_step {e : List (List UInt8)} {k : Nat} {x : List UInt8} (h : e[k]? = some x) : moreE k (e.drop k) = (if k = 0 then [] else [58]) ++ (esc (x.drop 0) ++ moreE (k + 1) (e.drop (k + 1))) := by
  obtain ⟨hi, rfl⟩ := List.getElem?_eq_some_iff.1 h
  rw [List.drop_eq_getElem_cons hi, List.drop_zero]
  rfl
theorem esc_step {x : List UInt8} {j : Nat} {c : UInt8} (h : x[j]? = some c) : esc (x.drop j) = (if spB c then [63] else []) ++ ([c] ++ esc (x.drop (j + 1))) := by
  obtain ⟨hi, rfl⟩ := List.getElem?_eq_some_iff.1 h
  rw [List.drop_eq_getElem_cons hi]
  show (if spB x[j] then 63 :: x[j] :: esc _ else x[j] :: esc _) = _
  split <;> rfl
/-- Letters and digits of a tag. -/
def letB (c : UInt8) : Bool := decide (65 ≤ c.toNat) && decide (c.toNat ≤ 90)
def digB (c : UInt8) : Bool := decide (48 ≤ c.toNat) && decide (c.toNat ≤ 57)
def tagB (t : List UInt8) : Bool :=
  match t with
  | [a, b, c] => letB a && ((letB b || digB b) && (letB c || digB c))
  | _ => false
/-- Is an element too long? -/
def longE (e : List (List UInt8)) : Bool := decide (100 < e.length) || e.any fun x => decide (1000 < x.length)
def longB (E : List (List (List UInt8))) : Bool := decide (100 < E.length) || E.any longE
/-- Is the last component of an element empty? -/
def lastE (e : List (List UInt8)) : Bool :=
  match e.getLast? with
  | some [] => true
  | _ => false
def badB : List (List (List UInt8)) → Bool
  | [] => false
  | [e] => e.isEmpty || lastE e
  | e :: f :: r => lastE e || badB (f :: r)
/-- The error of a segment. -/
def segE (s : Seg) : Int := if tagB s.tag then (if longB s.els then 8 else if badB s.els then 1 else 0) else 1

theorem seg_ok {s : Seg} (h : segE s = 0) : tagB s.tag = true ∧ longB s.els = false ∧ badB s.els = false := by
  unfold segE at h
  by_cases h1 : tagB s.tag = true
  · rw [if_pos h1] at h
    by_cases h2 : longB s.els = true
    · rw [if_pos h2] at h; cases h
    · rw [if_neg h2] at h
      by_cases h3 : badB s.els = true
      · rw [if_pos h3] at h; cases h
      · exact ⟨h1, by simpa using h2, by simpa using h3⟩
  · rw [if_neg h1] at h; cases h

/-- Where a segment ends: the first apostrophe outside of a pair. -/
def endF : List UInt8 → Option Nat
  | [] => none
  | [c] => if c = 39 then some 0 else none
  | c :: d :: r => if c = 39 then some 0 else if c = 63 then (endF r).map (· + 2) else (endF (d :: r)).map (· + 1)
theorem end_hit (r : List UInt8) : endF (39 :: r) = some 0 := by cases r <;> rfl
theorem end_pair (c : UInt8) (r : List UInt8) : endF (63 :: c :: r) = (endF r).map (· + 2) := rfl
theorem end_step {c : UInt8} (h1 : c ≠ 39) (h2 : c ≠ 63) (r : List UInt8) : endF (c :: r) = (endF r).map (· + 1) := by
  cases r with
  | nil => exact if_neg h1
  | cons d r => exact (if_neg h1).trans (if_neg h2)
theorem end_last : endF [63] = none := rfl

/-- Bytes in which no segment ends, and which close all their pairs. -/
def Thru (l : List UInt8) : Prop := ∀ r, endF (l ++ r) = (endF r).map (· + l.length)
theorem Thru.nil : Thru [] := fun r => by
  show endF r = (endF r).map (· + 0)
  cases endF r <;> rfl
theorem Thru.append {a b : List UInt8} (ha : Thru a) (hb : Thru b) : Thru (a ++ b) := fun r => by
  rw [List.append_assoc, ha, hb]
  cases endF r with
  | none => rfl
  | some n => simp; omega
theorem Thru.one {c : UInt8} (h1 : c ≠ 39) (h2 : c ≠ 63) : Thru [c] := fun r => end_step h1 h2 r
theorem Thru.pair (c : UInt8) : Thru [63, c] := fun r => end_pair c r
theorem Thru.cons {c : UInt8} {l : List UInt8} (h1 : c ≠ 39) (h2 : c ≠ 63) (h : Thru l) : Thru (c :: l) := Thru.append (Thru.one h1 h2) h
theorem sp_not {c : UInt8} (h : spB c = false) : c ≠ 43 ∧ c ≠ 58 ∧ c ≠ 63 ∧ c ≠ 39 := by
  unfold spB at h
  simp at h
  exact h
theorem Thru.esc : ∀ x : List UInt8, Thru (esc x)
  | [] => Thru.nil
  | c :: x => by
    show Thru (if spB c then 63 :: c :: Go.Proofs.YtepkihoakagidaaDoor.esc x else c :: Go.Proofs.YtepkihoakagidaaDoor.esc x)
    cases hc : spB c with
    | true => exact Thru.append (Thru.pair c) (Thru.esc x)
    | false =>
      obtain ⟨_, _, h3, h4⟩ := sp_not hc
      exact Thru.cons h4 h3 (Thru.esc x)
theorem Thru.flat {α : Type} (f : α → List UInt8) (h : ∀ a, Thru (f a)) : ∀ l : List α, Thru (l.flatMap f)
  | [] => Thru.nil
  | a :: l => by
    rw [List.flatMap_cons]
    exact Thru.append (h a) (Thru.flat f h l)
theorem Thru.encE : ∀ e, Thru (encE e)
  | [] => Thru.nil
  | x :: r => Thru.append (Thru.esc x) (Thru.flat _ (fun y => Thru.cons (by decide) (by decide) (Thru.esc y)) r)
theorem Thru.encEls (E : List (List (List UInt8))) : Thru (encEls E) := Thru.flat _ (fun e => Thru.cons (by decide) (by decide) (Thru.encE e)) E
theorem let_plain {c : UInt8} (h : (letB c || digB c) = true) : spB c = false := by
  unfold letB digB at h
  simp at h
  unfold spB
  simp only [Bool.or_eq_false_iff, beq_eq_false_iff_ne, ne_eq]
  refine ⟨?_, ?_, ?_, ?_⟩ <;>
    (intro e; subst e; simp at h)
theorem tag_shape {t : List UInt8} (h : tagB t = true) : ∃ a b c, t = [a, b, c] ∧ spB a = false ∧ spB b = false ∧ spB c = false := by
  match t, h with
  | [a, b, c], h =>
    unfold tagB at h
    simp only [Bool.and_eq_true] at h
    exact ⟨a, b, c, rfl, let_plain (by rw [h.1]; rfl), let_plain h.2.1, let_plain h.2.2⟩
theorem Thru.tag {t : List UInt8} (h : tagB t = true) : Thru t := by
  obtain ⟨a, b, c, rfl, h1, h2, h3⟩ := tag_shape h
  obtain ⟨_, _, a3, a4⟩ := sp_not h1
  obtain ⟨_, _, b3, b4⟩ := sp_not h2
  obtain ⟨_, _, c3, c4⟩ := sp_not h3
  exact Thru.cons a4 a3 (Thru.cons b4 b3 (Thru.one c4 c3))
theorem end_enc {s : Seg} (h : tagB s.tag = true) (r : List UInt8) : endF (encS s ++ r) = some (bodyS s).length := by
  have h2 : Thru (bodyS s) := Thru.append (Thru.tag h) (Thru.encEls s.els)
  unfold encS
  rw [List.append_assoc, h2]
  show Option.map _ (endF (39 :: r)) = _
  rw [end_hit]
  simp

/-- The bytes of a segment without its apostrophe, taken apart. -/
inductive Tok where
  | lit (c : UInt8)
  | plus
  | colon
def toks : List UInt8 → List Tok
  | [] => []
  | [c] => [if c = 43 then .plus else if c = 58 then .colon else .lit c]
  | c :: d :: r => if c = 63 then .lit d :: toks r else (if c = 43 then .plus else if c = 58 then .colon else .lit c) :: toks (d :: r)
def tokOf (c : UInt8) : Tok := if c = 43 then .plus else if c = 58 then .colon else .lit c
theorem toks_pair (c : UInt8) (r : List UInt8) : toks (63 :: c :: r) = .lit c :: toks r := rfl
theorem toks_one (c : UInt8) : toks [c] = [tokOf c] := rfl
theorem toks_step {c : UInt8} (h : c ≠ 63) (r : List UInt8) : toks (c :: r) = tokOf c :: toks r := by
  cases r with
  | nil => rfl
  | cons d r => exact if_neg h
/-- An element whose last word is known. -/
def closeE (cur : List (List UInt8)) (word : List UInt8) : List (List UInt8) := if word = [] ∧ cur = [] then [] else cur ++ [word]
def rdT (tag : List UInt8) (L : List (List (List UInt8))) (cur : List (List UInt8)) (word : List UInt8) : List Tok → Seg
  | [] => ⟨tag, L ++ [closeE cur word]⟩
  | .lit c :: r => rdT tag L cur (word ++ [c]) r
  | .plus :: r => rdT tag (L ++ [closeE cur word]) [] [] r
  | .colon :: r => rdT tag L (cur ++ [word]) [] r
def rd1 (word : List UInt8) : List Tok → Seg
  | [] => ⟨word, []⟩
  | .lit c :: r => rd1 (word ++ [c]) r
  | .plus :: r => rdT word [] [] [] r
  | .colon :: _ => ⟨word, []⟩
def readF (b : List UInt8) : Seg := rd1 [] (toks b)

theorem toks_esc : ∀ (x r : List UInt8), toks (esc x ++ r) = x.map Tok.lit ++ toks r
  | [], r => rfl
  | c :: x, r => by
    show toks ((if spB c then 63 :: c :: esc x else c :: esc x) ++ r) = Tok.lit c :: (x.map Tok.lit ++ toks r)
    cases hc : spB c with
    | true =>
      show toks (63 :: c :: (esc x ++ r)) = _
      rw [toks_pair, toks_esc x r]
    | false =>
      obtain ⟨h1, h2, h3, h4⟩ := sp_not hc
      show toks (c :: (esc x ++ r)) = _
      rw [toks_step h3, toks_esc x r]
      unfold tokOf
      rw [if_neg h1, if_neg h2]
theorem rdT_lits (tag : List UInt8) (L : List (List (List UInt8))) (cur : List (List UInt8)) : ∀ (x word : List UInt8) (t : List Tok), rdT tag L cur word (x.map Tok.lit ++ t) = rdT tag L cur (word ++ x) t
  | [], word, t => by rw [List.append_nil]; rfl
  | c :: x, word, t => by
    show rdT tag L cur (word ++ [c]) (x.map Tok.lit ++ t) = _
    rw [rdT_lits tag L cur x, List.append_assoc]
    rfl
theorem rd1_lits : ∀ (x word : List UInt8) (t : List Tok), rd1 word (x.map Tok.lit ++ t) = rd1 (word ++ x) t
  | [], word, t => by rw [List.append_nil]; rfl
  | c :: x, word, t => by
    show rd1 (word ++ [c]) (x.map Tok.lit ++ t) = _
    rw [rd1_lits x, List.append_assoc]
    rfl
/-- What is left behind an element: nothing, or a plus sign. -/
def Ends (t : List Tok) : Prop := t = [] ∨ ∃ r, t = .plus :: r
theorem toks_plus (l : List UInt8) : toks (43 :: l) = .plus :: toks l := toks_step (by decide) l
theorem toks_colon (l : List UInt8) : toks (58 :: l) = .colon :: toks l := toks_step (by decide) l
/-- Components behind the first. -/
theorem rdT_more (tag : List UInt8) (L : List (List (List UInt8))) : ∀ (r cur : List (List UInt8)) (w t : List UInt8), (match (w :: r).getLast? with | some [] => true | _ => false) = false →
    ∃ cur' w', cur' ++ [w'] = cur ++ (w :: r) ∧ w' ≠ [] ∧ rdT tag L cur w (toks ((r.flatMap fun y => 58 :: esc y) ++ t)) = rdT tag L cur' w' (toks t)
  | [], cur, w, t, h => ⟨cur, w, rfl, fun e => by subst e; simp at h, rfl⟩
  | y :: r, cur, w, t, h => by
    obtain ⟨cur', w', h1, h2, h3⟩ := rdT_more tag L r (cur ++ [w]) y t (by
      rw [List.getLast?_cons_cons] at h
      exact h)
    refine ⟨cur', w', by rw [h1]; simp, h2, ?_⟩
    rw [← h3, List.flatMap_cons]
    show rdT tag L cur w (toks (58 :: (esc y ++ r.flatMap (fun y => 58 :: esc y) ++ t))) = _
    rw [toks_colon, List.append_assoc, toks_esc]
    show rdT tag L (cur ++ [w]) [] (y.map Tok.lit ++ _) = _
    rw [rdT_lits]
    rfl
/-- An element that is read to its end. -/
theorem rdT_el (tag : List UInt8) (L : List (List (List UInt8))) (e : List (List UInt8)) (h : lastE e = false) (t : List UInt8) :
    ∃ cur w, closeE cur w = e ∧ rdT tag L [] [] (toks (encE e ++ t)) = rdT tag L cur w (toks t) := by
  cases e with
  | nil => exact ⟨[], [], rfl, rfl⟩
  | cons x r =>
    obtain ⟨cur', w', h1, h2, h3⟩ := rdT_more tag L r [] x t h
    refine ⟨cur', w', ?_, ?_⟩
    · unfold closeE
      rw [if_neg (fun hh => h2 hh.1), h1]
      rfl
    · show rdT tag L [] [] (toks ((esc x ++ r.flatMap fun y => 58 :: esc y) ++ t)) = _
      rw [List.append_assoc, toks_esc, rdT_lits, ← h3]
      rfl
theorem bad_cons {e : List (List UInt8)} {r : List (List (List UInt8))} (h : badB (e :: r) = false) : lastE e = false ∧ badB r = false := by
  cases r with
  | nil =>
    have : (e.isEmpty || lastE e) = false := h
    simp only [Bool.or_eq_false_iff] at this
    exact ⟨this.2, rfl⟩
  | cons f r =>
    have : (lastE e || badB (f :: r)) = false := h
    simp only [Bool.or_eq_false_iff] at this
    exact this
theorem rdT_els (tag : List UInt8) : ∀ (E L : List (List (List UInt8))) (cur : List (List UInt8)) (w : List UInt8), badB E = false → rdT tag L cur w (toks (encEls E)) = ⟨tag, L ++ [closeE cur w] ++ E⟩
  | [], L, cur, w, _ => by rw [List.append_nil]; rfl
  | e :: E, L, cur, w, h => by
    obtain ⟨h1, h2⟩ := bad_cons h
    obtain ⟨cur', w', h3, h4⟩ := rdT_el tag (L ++ [closeE cur w]) e h1 (encEls E)
    unfold encEls at h4 ⊢
    rw [List.flatMap_cons]
    show rdT tag L cur w (toks (43 :: (encE e ++ E.flatMap fun e => 43 :: encE e))) = _
    rw [toks_plus]
    show rdT tag (L ++ [closeE cur w]) [] [] (toks (encE e ++ E.flatMap fun e => 43 :: encE e)) = _
    rw [h4]
    have ih := rdT_els tag E (L ++ [closeE cur w]) cur' w' h2
    unfold encEls at ih
    rw [ih, h3]
    simp
/-- What was written is read as it was. -/
theorem read_body {s : Seg} (h1 : tagB s.tag = true) (h2 : badB s.els = false) : readF (bodyS s) = s := by
  obtain ⟨a, b, c, ht, ha, hb, hc⟩ := tag_shape h1
  have ht2 : ∀ r, toks (s.tag ++ r) = s.tag.map Tok.lit ++ toks r := fun r => by
    have : esc s.tag = s.tag := by
      rw [ht]
      show (if spB a then _ else a :: (if spB b then _ else b :: (if spB c then _ else [c]))) = _
      rw [ha, hb, hc]
      rfl
    have e := toks_esc s.tag r
    rw [this] at e
    exact e
  unfold readF bodyS
  rw [ht2, rd1_lits]
  obtain ⟨tag, els⟩ := s
  cases els with
  | nil => rfl
  | cons e E =>
    have h3 := bad_cons h2
    obtain ⟨cur', w', h5, h4⟩ := rdT_el tag [] e h3.1 (encEls E)
    show rd1 ([] ++ tag) (toks (43 :: encE e ++ encEls E)) = _
    rw [List.cons_append, toks_plus]
    show rdT ([] ++ tag) [] [] [] (toks (encE e ++ encEls E)) = _
    rw [List.nil_append, h4, rdT_els tag E [] cur' w' h3.2, h5]
    rfl

/-- The first segment of some bytes, how many bytes it has, and the error. -/
def nextF (b : List UInt8) : Seg × Nat × Int :=
  match endF b with
  | none => (noSeg, 0, 5)
  | some n => if segE (readF (b.take n)) = 0 ∧ encS (readF (b.take n)) = b.take (n + 1) then (readF (b.take n), n + 1, 0) else (noSeg, 0, 4)
theorem next_enc {s : Seg} (h : segE s = 0) (r : List UInt8) : nextF (encS s ++ r) = (s, (encS s).length, 0) := by
  obtain ⟨h1, _, h3⟩ := seg_ok h
  have hr := read_body h1 h3
  have ht : (encS s ++ r).take (bodyS s).length = bodyS s := by
    unfold encS
    rw [List.append_assoc, List.take_left']
    rfl
  have hl : (encS s).length = (bodyS s).length + 1 := by unfold encS; simp
  have ht2 : (encS s ++ r).take ((bodyS s).length + 1) = encS s := by
    rw [← hl, List.take_left']
    rfl
  unfold nextF
  rw [end_enc h1 r]
  simp only
  rw [ht, hr, ht2, if_pos ⟨h, rfl⟩, hl]
theorem next_ok {b : List UInt8} {s : Seg} {n : Nat} (h : nextF b = (s, n, 0)) : segE s = 0 ∧ encS s = b.take n ∧ 0 < n ∧ n ≤ b.length := by
  unfold nextF at h
  cases he : endF b with
  | none => rw [he] at h; simp at h
  | some k =>
    rw [he] at h
    simp only at h
    by_cases hc : segE (readF (b.take k)) = 0 ∧ encS (readF (b.take k)) = b.take (k + 1)
    · rw [if_pos hc] at h
      simp only [Prod.mk.injEq, and_true] at h
      obtain ⟨rfl, rfl⟩ := h
      refine ⟨hc.1, hc.2, by omega, ?_⟩
      have h1 := congrArg List.length hc.2
      have hr := seg_ok hc.1
      by_cases hl : k + 1 ≤ b.length
      · exact hl
      · exfalso
        have e2 := end_enc hr.1 []
        rw [List.append_nil, hc.2, List.take_of_length_le (show b.length ≤ k + 1 by omega), he] at e2
        simp only [Option.some.injEq] at e2
        have h3 : (encS (readF (b.take k))).length = (bodyS (readF (b.take k))).length + 1 := by unfold encS; simp
        rw [List.take_of_length_le (show b.length ≤ k + 1 by omega)] at h1
        omega
    · rw [if_neg hc] at h; simp at h
theorem next_kinds (b : List UInt8) : (nextF b).2.2 = 0 ∨ ((nextF b).1 = noSeg ∧ (nextF b).2.1 = 0 ∧ (nextF b).2.2 ≠ 0) := by
  unfold nextF
  cases endF b with
  | none => exact .inr ⟨rfl, rfl, by simp⟩
  | some k =>
    simp only
    split
    · exact .inl rfl
    · exact .inr ⟨rfl, rfl, by decide⟩

/-- The segments of some bytes: how far they were read, and the error. -/
def decF : Nat → List UInt8 → Nat → List Seg → List Seg × Nat × Int
  | 0, _, at_, acc => (acc, at_, 0)
  | f + 1, b, at_, acc => if b = [] then (acc, at_, 0) else if (nextF b).2.2 = 0 then decF f (b.drop (nextF b).2.1) (at_ + (nextF b).2.1) (acc ++ [(nextF b).1]) else ([], at_, (nextF b).2.2)
def decodeF (b : List UInt8) : List Seg × Nat × Int := decF b.length b 0 []
theorem dec_nil (f at_ : Nat) (acc : List Seg) : decF f [] at_ acc = (acc, at_, 0) := by
  cases f with
  | zero => rfl
  | succ f => exact if_pos rfl
theorem dec_ok {f at_ : Nat} {b : List UInt8} {acc : List Seg} (hb : b ≠ []) (h : (nextF b).2.2 = 0) : decF (f + 1) b at_ acc = decF f (b.drop (nextF b).2.1) (at_ + (nextF b).2.1) (acc ++ [(nextF b).1]) := (if_neg hb).trans (if_pos h)
theorem dec_bad {f at_ : Nat} {b : List UInt8} {acc : List Seg} (hb : b ≠ []) (h : (nextF b).2.2 ≠ 0) : decF (f + 1) b at_ acc = ([], at_, (nextF b).2.2) := (if_neg hb).trans (if_neg h)
theorem enc_pos (s : Seg) : 0 < (encS s).length := by unfold encS; simp
/-- What was encoded is decoded. -/
theorem dec_enc : ∀ (L : List Seg) (f at_ : Nat) (acc : List Seg), (∀ s ∈ L, segE s = 0) → (L.flatMap encS).length ≤ f → decF f (L.flatMap encS) at_ acc = (acc ++ L, at_ + (L.flatMap encS).length, 0)
  | [], f, at_, acc, _, _ => by
    show decF f [] at_ acc = _
    rw [dec_nil]
    simp
  | s :: L, f, at_, acc, hv, hf => by
    have h0 := hv s (List.mem_cons_self ..)
    have hn := next_enc h0 (L.flatMap encS)
    have hp := enc_pos s
    rw [List.flatMap_cons] at hf ⊢
    rw [List.length_append] at hf
    obtain ⟨g, rfl⟩ : ∃ g, f = g + 1 := ⟨f - 1, by omega⟩
    have hne : encS s ++ L.flatMap encS ≠ [] := by
      intro e
      have := congrArg List.length e
      rw [List.length_append, List.length_nil] at this
      omega
    rw [dec_ok hne (by rw [hn]), hn]
    simp only
    rw [List.drop_left', dec_enc L g _ _ (fun x hx => hv x (List.mem_cons_of_mem _ hx)) (by omega)]
    · rw [List.length_append]
      simp only [Prod.mk.injEq, and_true]
      exact ⟨by simp, by omega⟩
    · rfl
/-- What is decoded without an error was encoded so. -/
theorem dec_spec : ∀ (f : Nat) (b : List UInt8) (at_ : Nat) (acc L : List Seg) (n : Nat), b.length ≤ f → decF f b at_ acc = (L, n, 0) → ∃ M, L = acc ++ M ∧ (∀ s ∈ M, segE s = 0) ∧ M.flatMap encS = b ∧ n = at_ + b.length
  | 0, b, at_, acc, L, n, hf, h => by
    obtain rfl : b = [] := List.eq_nil_of_length_eq_zero (by omega)
    rw [dec_nil] at h
    simp only [Prod.mk.injEq, and_true] at h
    obtain ⟨rfl, rfl⟩ := h
    exact ⟨[], by simp, fun s hs => absurd hs (by simp), rfl, by simp⟩
  | f + 1, b, at_, acc, L, n, hf, h => by
    by_cases hb : b = []
    · subst hb
      rw [dec_nil] at h
      simp only [Prod.mk.injEq, and_true] at h
      obtain ⟨rfl, rfl⟩ := h
      exact ⟨[], by simp, fun s hs => absurd hs (by simp), rfl, by simp⟩
    · by_cases he : (nextF b).2.2 = 0
      · rw [dec_ok hb he] at h
        have hk := next_ok (b := b) (s := (nextF b).1) (n := (nextF b).2.1) (by rw [← he])
        obtain ⟨h1, h2, h3, h4⟩ := hk
        obtain ⟨M, m1, m2, m3, m4⟩ := dec_spec f _ _ _ _ _ (by rw [List.length_drop]; omega) h
        refine ⟨(nextF b).1 :: M, by rw [m1]; simp, fun s hs => ?_, ?_, ?_⟩
        · rcases List.mem_cons.1 hs with rfl | hs
          · exact h1
          · exact m2 s hs
        · rw [List.flatMap_cons, m3, h2]
          exact List.take_append_drop _ _
        · rw [m4, List.length_drop]
          omega
      · rw [dec_bad hb he] at h
        simp only [Prod.mk.injEq] at h
        exact absurd h.2.2 he

/-- The encoding of some segments, or the error of the first that has one. -/
def encF (acc : List UInt8) : List Seg → List UInt8 × Int
  | [] => (acc, 0)
  | s :: L => if segE s = 0 then encF (acc ++ encS s) L else ([], segE s)
theorem encF_ok : ∀ (L : List Seg) (acc : List UInt8), (∀ s ∈ L, segE s = 0) → encF acc L = (acc ++ L.flatMap encS, 0)
  | [], acc, _ => by rw [List.flatMap_nil, List.append_nil]; rfl
  | s :: L, acc, h => by
    show (if segE s = 0 then encF (acc ++ encS s) L else ([], segE s)) = _
    rw [if_pos (h s (List.mem_cons_self ..)), encF_ok L _ (fun x hx => h x (List.mem_cons_of_mem _ hx)), List.flatMap_cons, List.append_assoc]
/-- A valid segment is not too long. -/
theorem flat_len {α : Type} (f : α → List UInt8) (m : Nat) : ∀ l : List α, (∀ a ∈ l, (f a).length ≤ m) → (l.flatMap f).length ≤ l.length * m
  | [], _ => by simp
  | a :: l, h => by
    rw [List.flatMap_cons, List.length_append, List.length_cons, Nat.succ_mul]
    have h1 := h a (List.mem_cons_self ..)
    have h2 := flat_len f m l (fun b hb => h b (List.mem_cons_of_mem _ hb))
    omega
theorem encE_len {e : List (List UInt8)} (h : longE e = false) : (encE e).length ≤ 200100 := by
  unfold longE at h
  simp only [Bool.or_eq_false_iff, decide_eq_false_iff_not, List.any_eq_false, decide_eq_true_eq] at h
  obtain ⟨h1, h2⟩ := h
  cases e with
  | nil => exact Nat.zero_le _
  | cons x r =>
    show (esc x ++ r.flatMap fun y => 58 :: esc y).length ≤ _
    rw [List.length_append]
    have e1 := esc_len x
    have e2 := h2 x (List.mem_cons_self ..)
    have e3 := flat_len (fun y => 58 :: esc y) 2001 r (fun y hy => by
      have := esc_len y
      have := h2 y (List.mem_cons_of_mem _ hy)
      simp
      omega)
    simp at h1
    omega
theorem encS_len {s : Seg} (h : segE s = 0) : (encS s).length ≤ 30000000 := by
  obtain ⟨h1, h2, _⟩ := seg_ok h
  obtain ⟨a, b, c, ht, _⟩ := tag_shape h1
  unfold longB at h2
  simp only [Bool.or_eq_false_iff, decide_eq_false_iff_not, List.any_eq_false] at h2
  have e1 := flat_len (fun e => 43 :: encE e) 200101 s.els (fun e he => by
    have := encE_len (by simpa using h2.2 e he : longE e = false)
    simp
    omega)
  unfold encS bodyS encEls
  rw [List.length_append, List.length_append, ht]
  simp only [List.length_cons, List.length_nil]
  omega
theorem encF_step (acc : List UInt8) {L : List Seg} {i : Nat} {s : Seg} (h : L[i]? = some s) : encF acc (L.drop i) = if segE s = 0 then encF (acc ++ encS s) (L.drop (i + 1)) else ([], segE s) := by
  obtain ⟨hi, rfl⟩ := List.getElem?_eq_some_iff.1 h
  rw [List.drop_eq_getElem_cons hi]
  rfl
end Go.Proofs.YtepkihoakagidaaDoor
namespace Go.Proofs.YtepkihoakagidaaDoor

/-- A message. -/
structure Msg where
  kind : Int
  frm : Int
  to_ : Int
  num : Int
  day : Int
  lot : Int
  other : Int
  code : List UInt8
  ctry : List UInt8
  qty : Int
  amt : Int
  list : List Int
  text : List UInt8
def noMsg : Msg := ⟨0, 0, 0, 0, 0, 0, 0, [], [], 0, 0, [], []⟩

def inB (x n : Int) : Bool := decide (0 ≤ x) && decide (x ≤ n)
def amB (n : Int) : Bool := decide (-1000000000000 ≤ n) && decide (n ≤ 1000000000000)
def codeB (s : List UInt8) : Bool := s.all digB && (decide (s.length ≤ 8) && s.length % 2 == 0)
def ctryB (s : List UInt8) : Bool := match s with
  | [a, b] => letB a && letB b
  | _ => false
def rangeB (m : Msg) : Bool := (decide (1 ≤ m.kind) && decide (m.kind ≤ 60)) && (inB m.frm 999 && (inB m.to_ 999 && (inB m.num 1000000000 && (inB m.day 36524 && (inB m.lot 1000000000 && (inB m.other 1000000000 && (inB m.qty 1000000000 && amB m.amt)))))))
/-- The error of a message. -/
def msgE (m : Msg) : Int := if rangeB m then (if codeB m.code && (m.ctry.isEmpty || ctryB m.ctry) then (if decide (m.list.length ≤ 64) && decide (m.text.length ≤ 200) then (if m.list.all amB then 0 else 2) else 8) else 1) else 2
theorem msg_ok {m : Msg} (h : msgE m = 0) : rangeB m = true ∧ codeB m.code = true ∧ (m.ctry = [] ∨ ctryB m.ctry = true) ∧ m.list.length ≤ 64 ∧ m.text.length ≤ 200 ∧ m.list.all amB = true := by
  unfold msgE at h
  by_cases h1 : rangeB m = true
  · rw [if_pos h1] at h
    by_cases h2 : (codeB m.code && (m.ctry.isEmpty || ctryB m.ctry)) = true
    · rw [if_pos h2] at h
      by_cases h3 : (decide (m.list.length ≤ 64) && decide (m.text.length ≤ 200)) = true
      · rw [if_pos h3] at h
        by_cases h4 : m.list.all amB = true
        · simp only [Bool.and_eq_true, Bool.or_eq_true, List.isEmpty_iff, decide_eq_true_eq] at h2 h3
          exact ⟨h1, h2.1, h2.2, h3.1, h3.2, h4⟩
        · rw [if_neg h4] at h; cases h
      · rw [if_neg h3] at h; cases h
    · rw [if_neg h2] at h; cases h
  · rw [if_neg h1] at h; cases h

/-- An element of one component, or of none. -/
def elS (s : List UInt8) : List (List UInt8) := if s = [] then [] else [s]
def rowS (tag : List UInt8) (l : List Int) : Seg := ⟨tag, l.map fun n => elS (Lib.itoa n)⟩
def tMSG : List UInt8 := [77, 83, 71]
def tLOT : List UInt8 := [76, 79, 84]
def tGDS : List UInt8 := [71, 68, 83]
def tLST : List UInt8 := [76, 83, 84]
def tTXT : List UInt8 := [84, 88, 84]
def tEND : List UInt8 := [69, 78, 68]
def lotS_ (m : Msg) : List Seg := if m.lot = 0 ∧ m.other = 0 then [] else [rowS tLOT [m.lot, m.other]]
def gdsS (m : Msg) : List Seg := if m.code = [] ∧ m.ctry = [] ∧ m.qty = 0 ∧ m.amt = 0 then [] else [⟨tGDS, [elS m.code, elS m.ctry, elS (Lib.itoa m.qty), elS (Lib.itoa m.amt)]⟩]
def lstS (m : Msg) : List Seg := if m.list = [] then [] else [⟨tLST, [m.list.map Lib.itoa]⟩]
def txtS (m : Msg) : List Seg := if m.text = [] then [] else [⟨tTXT, [elS m.text]⟩]
def frontS (m : Msg) : List Seg := [rowS tMSG [m.kind, m.frm, m.to_, m.num, m.day]] ++ lotS_ m ++ gdsS m ++ lstS m ++ txtS m
/-- The segments of a message. -/
def segsM (m : Msg) : List Seg := frontS m ++ [rowS tEND [((frontS m).length : Int) + 1, m.num]]

/-- One byte of a number. -/
def numStep (st : Int × Int) (c : UInt8) : Int × Int := if c = 45 then (st.1, -1) else if digB c && decide (st.1 < 10000000000000) then (10 * st.1 + ((c.toNat : Int) - 48), st.2) else st
def numF (l : List (List UInt8)) : Int := match l with
  | [x] => if 20 < x.length then 0 else (x.foldl numStep (0, 1)).2 * (x.foldl numStep (0, 1)).1
  | _ => 0
def atF (s : Seg) (k : Nat) : List (List UInt8) := s.els.getD k []
def wordF (l : List (List UInt8)) : List UInt8 := match l with
  | [x] => x
  | _ => []
def gStep (m : Msg) (s : Seg) : Msg :=
  if s.tag = tMSG then { m with kind := numF (atF s 0), frm := numF (atF s 1), to_ := numF (atF s 2), num := numF (atF s 3), day := numF (atF s 4) }
  else if s.tag = tLOT then { m with lot := numF (atF s 0), other := numF (atF s 1) }
  else if s.tag = tGDS then { m with code := wordF (atF s 0), ctry := wordF (atF s 1), qty := numF (atF s 2), amt := numF (atF s 3) }
  else if s.tag = tLST then { m with list := m.list ++ (atF s 0).map fun x => numF [x] }
  else if s.tag = tTXT then { m with text := wordF (atF s 0) }
  else m
def guessF (L : List Seg) : Msg := L.foldl gStep noMsg

theorem itoa_ne (n : Int) : Lib.itoa n ≠ [] := by
  unfold Lib.itoa
  split
  · simp
  · rw [Lib.decDigits]
    split <;> simp
theorem elS_itoa (n : Int) : elS (Lib.itoa n) = [Lib.itoa n] := if_neg (itoa_ne n)
theorem dec_digits_le (m : Nat) : ∀ x : Nat, 1 ≤ m → x < 10 ^ m → (Lib.decDigits x).length ≤ m := by
  induction m with
  | zero => intro x h; omega
  | succ m ih =>
    intro x _ hx
    by_cases h : x < 10
    · rw [Lib.decDigits_one h]; simp
    · rw [Lib.decDigits, dif_neg h, List.length_append]
      have hm : 1 ≤ m := by
        rcases Nat.eq_zero_or_pos m with rfl | hm
        · simp at hx; omega
        · exact hm
      have := ih (x / 10) hm (by rw [Nat.pow_succ] at hx; omega)
      simp
      omega
theorem digit_nat (d : Nat) (hd : d < 10) : (UInt8.ofNat (48 + d)).toNat = 48 + d := by
  rw [UInt8.toNat_ofNat', Nat.mod_eq_of_lt (by omega)]
theorem step_digit (st : Int × Int) (d : Nat) (hd : d < 10) (hs : st.1 < 10000000000000) : numStep st (UInt8.ofNat (48 + d)) = (10 * st.1 + d, st.2) := by
  have e := digit_nat d hd
  have h1 : ¬ UInt8.ofNat (48 + d) = 45 := fun h => by
    have := congrArg UInt8.toNat h
    rw [e] at this
    simp at this
    omega
  have h2 : digB (UInt8.ofNat (48 + d)) = true := by
    unfold digB
    rw [e]
    simp
    omega
  unfold numStep
  rw [if_neg h1, h2, decide_eq_true hs, e]
  simp
  omega
theorem fold_digits (s : Int) : ∀ x : Nat, x ≤ 10000000000009 → (Lib.decDigits x).foldl numStep (0, s) = ((x : Int), s) := by
  intro x
  induction x using Nat.strongRecOn with
  | _ x ih =>
    intro hx
    by_cases h : x < 10
    · rw [Lib.decDigits_one h]
      show numStep (0, s) _ = _
      rw [step_digit _ x h (by simp)]
      simp
    · rw [Lib.decDigits, dif_neg h, List.foldl_append, ih (x / 10) (by omega) (by omega)]
      show numStep _ _ = _
      rw [step_digit _ (x % 10) (by omega) (by show ((x / 10 : Nat) : Int) < _; omega)]
      simp only [Prod.mk.injEq, and_true]
      omega
theorem itoa_len {n : Int} (h : amB n = true) : (Lib.itoa n).length ≤ 14 := by
  simp [amB] at h
  unfold Lib.itoa
  split
  · have := dec_digits_le 13 n.natAbs (by omega) (by omega)
    simp
    omega
  · have := dec_digits_le 13 n.toNat (by omega) (by omega)
    omega
/-- A number that was written is read. -/
theorem num_itoa {n : Int} (h : amB n = true) : numF [Lib.itoa n] = n := by
  have hl := itoa_len h
  simp [amB] at h
  unfold numF
  simp only
  rw [if_neg (by omega)]
  unfold Lib.itoa
  split
  · rename_i hn
    rw [List.foldl_cons, show numStep (0, 1) 45 = (0, -1) from rfl, fold_digits (-1) n.natAbs (by omega)]
    simp
    omega
  · rw [fold_digits 1 n.toNat (by omega)]
    simp
    omega
theorem inB_am {x n : Int} (h : inB x n = true) (hn : n ≤ 1000000000000) : amB x = true := by
  simp [inB] at h
  simp [amB]
  omega
theorem word_elS (s : List UInt8) : wordF (elS s) = s := by
  unfold elS
  split
  · rename_i h
    rw [h]
    rfl
  · rfl
theorem map_nums {l : List Int} (h : l.all amB = true) : (l.map Lib.itoa).map (fun x => numF [x]) = l := by
  rw [List.map_map]
  rw [List.all_eq_true] at h
  conv => rhs; rw [← List.map_id l]
  exact List.map_congr_left fun x hx => num_itoa (h x hx)
/-- What was written is guessed. -/
theorem guess_segs {m : Msg} (h : msgE m = 0) : guessF (segsM m) = m := by
  obtain ⟨h1, h2, h3, h4, h5, h6⟩ := msg_ok h
  unfold rangeB at h1
  simp only [Bool.and_eq_true, decide_eq_true_eq] at h1
  obtain ⟨⟨a1, a2⟩, a3, a4, a5, a6, a7, a8, a9, a10⟩ := h1
  have n1 : numF [Lib.itoa m.kind] = m.kind := num_itoa (by simp [amB]; omega)
  have n2 := num_itoa (inB_am a3 (by omega))
  have n3 := num_itoa (inB_am a4 (by omega))
  have n4 := num_itoa (inB_am a5 (by omega))
  have n5 := num_itoa (inB_am a6 (by omega))
  have n6 := num_itoa (inB_am a7 (by omega))
  have n7 := num_itoa (inB_am a8 (by omega))
  have n8 := num_itoa (inB_am a9 (by omega))
  have n9 := num_itoa a10
  have hl := map_nums h6
  obtain ⟨kind, frm, to_, num, day, lot, other, code, ctry, qty, amt, list, text⟩ := m
  dsimp only at *
  have hend : ∀ m1 : Msg, ∀ l, gStep m1 (rowS tEND l) = m1 := fun m1 l => rfl
  unfold guessF segsM
  rw [List.foldl_append, List.foldl_cons, List.foldl_nil, hend]
  unfold frontS
  simp only [List.foldl_append]
  have g1 : List.foldl gStep noMsg [rowS tMSG [kind, frm, to_, num, day]] = ⟨kind, frm, to_, num, day, 0, 0, [], [], 0, 0, [], []⟩ := by
    show gStep noMsg (rowS tMSG [kind, frm, to_, num, day]) = _
    unfold gStep rowS atF
    simp only [List.map_cons, List.map_nil, elS_itoa, if_true]
    simp [n1, n2, n3, n4, n5, noMsg]
  rw [g1]
  have g2 : List.foldl gStep ⟨kind, frm, to_, num, day, 0, 0, [], [], 0, 0, [], []⟩ (lotS_ ⟨kind, frm, to_, num, day, lot, other, code, ctry, qty, amt, list, text⟩) = ⟨kind, frm, to_, num, day, lot, other, [], [], 0, 0, [], []⟩ := by
    unfold lotS_
    split
    · rename_i hh
      dsimp only at hh
      rw [hh.1, hh.2]
      rfl
    · rw [List.foldl_cons, List.foldl_nil]
      unfold gStep rowS atF
      dsimp only
      rw [if_neg (by decide), if_pos rfl]
      simp only [List.map_cons, List.map_nil, elS_itoa]
      simp [n6, n7]
  rw [g2]
  have g3 : List.foldl gStep ⟨kind, frm, to_, num, day, lot, other, [], [], 0, 0, [], []⟩ (gdsS ⟨kind, frm, to_, num, day, lot, other, code, ctry, qty, amt, list, text⟩) = ⟨kind, frm, to_, num, day, lot, other, code, ctry, qty, amt, [], []⟩ := by
    unfold gdsS
    split
    · rename_i hh
      dsimp only at hh
      rw [hh.1, hh.2.1, hh.2.2.1, hh.2.2.2]
      rfl
    · rw [List.foldl_cons, List.foldl_nil]
      unfold gStep atF
      dsimp only
      rw [if_neg (by decide), if_neg (by decide), if_pos rfl]
      simp only [elS_itoa, List.getD_cons_zero, List.getD_cons_succ, word_elS]
      simp [n8, n9]
  rw [g3]
  have g4 : List.foldl gStep ⟨kind, frm, to_, num, day, lot, other, code, ctry, qty, amt, [], []⟩ (lstS ⟨kind, frm, to_, num, day, lot, other, code, ctry, qty, amt, list, text⟩) = ⟨kind, frm, to_, num, day, lot, other, code, ctry, qty, amt, list, []⟩ := by
    unfold lstS
    split
    · rename_i hh
      dsimp only at hh
      rw [hh]
      rfl
    · rw [List.foldl_cons, List.foldl_nil]
      unfold gStep atF
      dsimp only
      rw [if_neg (by decide), if_neg (by decide), if_neg (by decide), if_pos rfl]
      simp only [List.getD_cons_zero, List.nil_append, hl]
  rw [g4]
  unfold txtS
  split
  · rename_i hh
    dsimp only at hh
    rw [hh]
    rfl
  · rw [List.foldl_cons, List.foldl_nil]
    unfold gStep atF
    dsimp only
    rw [if_neg (by decide), if_neg (by decide), if_neg (by decide), if_neg (by decide), if_pos rfl]
    simp only [List.getD_cons_zero, word_elS]
theorem segs_inj {a b : Msg} (ha : msgE a = 0) (hb : msgE b = 0) (h : segsM a = segsM b) : a = b := by
  rw [← guess_segs ha, h, guess_segs hb]
end Go.Proofs.YtepkihoakagidaaDoor
namespace Go.Proofs.YtepkihoakagidaaDoor

theorem bad_ends : ∀ E : List (List (List UInt8)), (∀ e ∈ E, lastE e = false) → E.getLast? ≠ some [] → badB E = false
  | [], _, _ => rfl
  | [e], h1, h2 => by
    show (e.isEmpty || lastE e) = false
    rw [h1 e (List.mem_cons_self ..), Bool.or_false]
    cases e with
    | nil => exact absurd rfl h2
    | cons _ _ => rfl
  | e :: f :: r, h1, h2 => by
    show (lastE e || badB (f :: r)) = false
    rw [h1 e (List.mem_cons_self ..), Bool.false_or]
    exact bad_ends (f :: r) (fun x hx => h1 x (List.mem_cons_of_mem _ hx)) (by rw [List.getLast?_cons_cons] at h2; exact h2)
theorem seg_good {t : List UInt8} {E : List (List (List UInt8))} (ht : tagB t = true) (hE : E.length ≤ 100) (h : ∀ e ∈ E, e.length ≤ 100 ∧ (∀ x ∈ e, x.length ≤ 1000) ∧ lastE e = false) (hl : E.getLast? ≠ some []) : segE ⟨t, E⟩ = 0 := by
  have hlong : longB E = false := by
    unfold longB
    rw [decide_eq_false (by omega), Bool.false_or, List.any_eq_false]
    intro e he
    obtain ⟨h1, h2, _⟩ := h e he
    unfold longE
    rw [decide_eq_false (by omega), Bool.false_or]
    simp only [List.any_eq_true, decide_eq_true_eq, not_exists, not_and]
    intro x hx
    have := h2 x hx
    omega
  unfold segE
  rw [if_pos ht, hlong, bad_ends E (fun e he => (h e he).2.2) hl]
  rfl
theorem el_good {s : List UInt8} (h : s.length ≤ 1000) : (elS s).length ≤ 100 ∧ (∀ x ∈ elS s, x.length ≤ 1000) ∧ lastE (elS s) = false := by
  unfold elS
  split
  · refine ⟨by simp, ?_, rfl⟩
    intro x hx
    cases hx
  · rename_i hne
    refine ⟨by simp, fun x hx => by rw [List.mem_singleton.1 hx]; exact h, ?_⟩
    cases s with
    | nil => exact absurd rfl hne
    | cons _ _ => rfl
theorem row_good {t : List UInt8} {l : List Int} (ht : tagB t = true) (hl : l.length ≤ 100) (h : ∀ n ∈ l, amB n = true) : segE (rowS t l) = 0 := by
  refine seg_good ht (by simpa using hl) (fun e he => ?_) ?_
  · obtain ⟨n, hn, rfl⟩ := List.mem_map.1 he
    exact el_good (by have := itoa_len (h n hn); omega)
  · rw [List.getLast?_map]
    intro hh
    obtain ⟨n, _, hn⟩ := Option.map_eq_some_iff.1 hh
    rw [elS_itoa] at hn
    cases hn
theorem last_num (l : List Int) : lastE (l.map Lib.itoa) = false := by
  unfold lastE
  rw [List.getLast?_map]
  cases h : l.getLast? with
  | none => rfl
  | some n =>
    show (match some (Lib.itoa n) with | some [] => true | _ => false) = false
    have := itoa_ne n
    cases h2 : Lib.itoa n with
    | nil => exact absurd h2 this
    | cons _ _ => rfl
theorem front_len (m : Msg) : (frontS m).length ≤ 5 := by
  unfold frontS lotS_ gdsS lstS txtS
  simp only [List.length_append, List.length_cons, List.length_nil]
  split <;> split <;> split <;> split <;> simp
/-- The segments of a valid message are valid. -/
theorem segs_ok {m : Msg} (h : msgE m = 0) : ∀ s ∈ segsM m, segE s = 0 := by
  obtain ⟨h1, h2, h3, h4, h5, h6⟩ := msg_ok h
  unfold rangeB at h1
  simp only [Bool.and_eq_true, decide_eq_true_eq] at h1
  obtain ⟨⟨a1, a2⟩, a3, a4, a5, a6, a7, a8, a9, a10⟩ := h1
  have n1 : amB m.kind = true := by simp [amB]; omega
  have n2 := inB_am a3 (by omega)
  have n3 := inB_am a4 (by omega)
  have n4 := inB_am a5 (by omega)
  have n5 := inB_am a6 (by omega)
  have n6 := inB_am a7 (by omega)
  have n7 := inB_am a8 (by omega)
  have n8 := inB_am a9 (by omega)
  have hf := front_len m
  intro s hs
  unfold segsM at hs
  rcases List.mem_append.1 hs with hs | hs
  · unfold frontS at hs
    rcases List.mem_append.1 hs with hs | hs
    · rcases List.mem_append.1 hs with hs | hs
      · rcases List.mem_append.1 hs with hs | hs
        · rcases List.mem_append.1 hs with hs | hs
          · rw [List.mem_singleton.1 hs]
            refine row_good rfl (by simp) fun n hn => ?_
            simp only [List.mem_cons, List.not_mem_nil, or_false] at hn
            rcases hn with rfl | rfl | rfl | rfl | rfl <;> assumption
          · unfold lotS_ at hs
            split at hs
            · cases hs
            · rw [List.mem_singleton.1 hs]
              refine row_good rfl (by simp) fun n hn => ?_
              simp only [List.mem_cons, List.not_mem_nil, or_false] at hn
              rcases hn with rfl | rfl <;> assumption
        · unfold gdsS at hs
          split at hs
          · cases hs
          · rw [List.mem_singleton.1 hs]
            have hc : m.code.length ≤ 1000 := by
              unfold codeB at h2
              simp only [Bool.and_eq_true, decide_eq_true_eq] at h2
              omega
            have hy : m.ctry.length ≤ 1000 := by
              rcases h3 with h3 | h3
              · rw [h3]; simp
              · unfold ctryB at h3
                split at h3
                · rename_i e; rw [e]; simp
                · cases h3
            have hq := itoa_len n8
            have hz := itoa_len a10
            refine seg_good rfl (by simp) (fun e he => ?_) ?_
            · simp only [List.mem_cons, List.not_mem_nil, or_false] at he
              rcases he with rfl | rfl | rfl | rfl
              · exact el_good hc
              · exact el_good hy
              · exact el_good (by omega)
              · exact el_good (by omega)
            · rw [elS_itoa m.amt]
              simp
      · unfold lstS at hs
        split at hs
        · cases hs
        · rename_i hne
          rw [List.mem_singleton.1 hs]
          refine seg_good rfl (by simp) (fun e he => ?_) ?_
          · rw [List.mem_singleton.1 he]
            refine ⟨by simp; omega, fun x hx => ?_, last_num _⟩
            obtain ⟨n, hn, rfl⟩ := List.mem_map.1 hx
            have := itoa_len (List.all_eq_true.1 h6 n hn)
            omega
          · simp [hne]
    · unfold txtS at hs
      split at hs
      · cases hs
      · rename_i hne
        rw [List.mem_singleton.1 hs]
        refine seg_good rfl (by simp) (fun e he => ?_) ?_
        · rw [List.mem_singleton.1 he]
          exact el_good (by omega)
        · unfold elS
          rw [if_neg hne]
          simp
  · rw [List.mem_singleton.1 hs]
    refine row_good rfl (by simp) fun n hn => ?_
    simp only [List.mem_cons, List.not_mem_nil, or_false] at hn
    rcases hn with rfl | rfl
    · simp [amB]; omega
    · assumption
/-- The encoding of a message. -/
def bytesM (m : Msg) : List UInt8 := (segsM m).flatMap encS
theorem bytes_enc {m : Msg} (h : msgE m = 0) : encF [] (segsM m) = (bytesM m, 0) := by
  rw [encF_ok _ _ (segs_ok h)]
  rfl
theorem bytes_dec {m : Msg} (h : msgE m = 0) : decF (bytesM m).length (bytesM m) 0 [] = (segsM m, (bytesM m).length, 0) := by
  have := dec_enc (segsM m) (bytesM m).length 0 [] (segs_ok h) (Nat.le_refl _)
  simpa [bytesM] using this
/-- Different messages have different encodings. -/
theorem bytes_inj {a b : Msg} (ha : msgE a = 0) (hb : msgE b = 0) (h : bytesM a = bytesM b) : a = b := by
  have e1 := bytes_dec ha
  rw [h, bytes_dec hb] at e1
  exact segs_inj ha hb (Prod.mk.inj e1).1.symm

/-- The segments with the last one's first element put right. -/
def endFix (L : List Seg) : List Seg := match L.getLast? with
  | some s => L.dropLast ++ [⟨tEND, [elS (Lib.itoa L.length), s.els.getD 1 []]⟩]
  | none => []
def endLike (L : List Seg) : Bool := match L.getLast? with
  | some s => decide (s.tag = tEND ∧ s.els.length = 2)
  | none => false
instance : DecidableEq Seg := fun a b => decidable_of_iff (a.tag = b.tag ∧ a.els = b.els) (by cases a; cases b; simp)
/-- What Parse returns. -/
def parseF (L : List Seg) : Msg × Int :=
  if msgE (guessF L) = 0 then
    if segsM (guessF L) = L then (guessF L, 0) else if endLike L = true ∧ segsM (guessF L) = endFix L then (noMsg, 11) else (noMsg, 4)
  else (noMsg, 4)
theorem parse_segs {m : Msg} (h : msgE m = 0) : parseF (segsM m) = (m, 0) := by
  unfold parseF
  rw [guess_segs h, if_pos h, if_pos rfl]
theorem parse_ok {L : List Seg} (h : (parseF L).2 = 0) : msgE (parseF L).1 = 0 ∧ segsM (parseF L).1 = L := by
  unfold parseF at *
  split at h
  · rename_i h1
    rw [if_pos h1]
    split at h
    · rename_i h2
      rw [if_pos h2]
      exact ⟨h1, h2⟩
    · split at h <;> cases h
  · cases h
end Go.Proofs.YtepkihoakagidaaDoor
namespace Go.Proofs.YtepkihoakagidaaDoor

/-- The number that Atoi returns beside its error. -/
def numL (x : List UInt8) : Int := match Lib.atoiAll x with
  | .ok v => v
  | .range => Lib.atoiSat x
  | _ => 0
theorem dFrom_append : ∀ (l r : List UInt8) (a b : Nat), Lib.decFrom a l = some b → Lib.decFrom a (l ++ r) = Lib.decFrom b r
  | [], r, a, b, h => by
    have : a = b := by simpa [Lib.decFrom] using h
    rw [this]; rfl
  | c :: l, r, a, b, h => by
    simp only [Lib.decFrom, List.cons_append] at h ⊢
    split at h
    · exact dFrom_append l r _ b h
    · exact absurd h (by simp)
theorem dFrom_digit (a d : Nat) (hd : d < 10) (r : List UInt8) : Lib.decFrom a (UInt8.ofNat (48 + d) :: r) = Lib.decFrom (a * 10 + d) r := by
  have e := digit_nat d hd
  have h : Lib.digitVal (UInt8.ofNat (48 + d)) = some d := by
    unfold Lib.digitVal
    rw [e, if_pos (by omega)]
    congr 1
    omega
  simp only [Lib.decFrom, h]
theorem dFrom_digits : ∀ x : Nat, Lib.decFrom 0 (Lib.decDigits x) = some x := by
  intro x
  induction x using Nat.strongRecOn with
  | _ x ih =>
    by_cases h : x < 10
    · rw [Lib.decDigits_one h, dFrom_digit _ _ h]
      simp [Lib.decFrom]
    · rw [Lib.decDigits, dif_neg h, dFrom_append _ _ _ _ (ih (x / 10) (by omega)), dFrom_digit _ _ (Nat.mod_lt _ (by omega))]
      simp only [Lib.decFrom, Option.some.injEq]
      omega
theorem dig_range : ∀ (x : Nat) (b : UInt8), b ∈ Lib.decDigits x → 48 ≤ b.toNat ∧ b.toNat ≤ 57 := by
  intro x
  induction x using Nat.strongRecOn with
  | _ x ih =>
    intro b hb
    by_cases h : x < 10
    · rw [Lib.decDigits_one h, List.mem_singleton] at hb
      rw [hb, digit_nat _ h]
      omega
    · rw [Lib.decDigits, dif_neg h, List.mem_append] at hb
      rcases hb with hb | hb
      · exact ih (x / 10) (by omega) b hb
      · rw [List.mem_singleton] at hb
        rw [hb, digit_nat _ (Nat.mod_lt _ (by omega))]
        omega
theorem dig_ne (x : Nat) : Lib.decDigits x ≠ [] := by
  rw [Lib.decDigits]
  split <;> simp
theorem dNat_digits (x : Nat) : Lib.decNat (Lib.decDigits x) = some x := by
  unfold Lib.decNat
  rw [show (Lib.decDigits x).isEmpty = false by rw [List.isEmpty_eq_false_iff]; exact dig_ne x]
  exact dFrom_digits x
/-- What was written as a number is read by Atoi. -/
theorem atoi_itoa {n : Int} (h : amB n = true) : Lib.atoiAll (Lib.itoa n) = .ok n := by
  have hl := itoa_len h
  rw [Lib.atoiAll_short _ (by omega)]
  have : Lib.atoi (Lib.itoa n) = some n := by
    unfold Lib.itoa
    split
    · rename_i hn
      have e : ((45 : UInt8) == 45) = true := by decide
      simp only [Lib.atoi, e, dNat_digits, if_true]
      show some (-(n.natAbs : Int)) = some n
      congr 1
      omega
    · rename_i hn
      have hr := dig_range n.toNat
      have hd := dNat_digits n.toNat
      have h0 := dig_ne n.toNat
      generalize Lib.decDigits n.toNat = l at *
      cases l with
      | nil => exact absurd rfl h0
      | cons b r =>
        have hb := hr b (List.mem_cons_self ..)
        have e1 : (b == 45) = false := by
          rw [beq_eq_false_iff_ne]
          rintro rfl
          exact absurd hb.1 (by decide)
        have e2 : (b == 43) = false := by
          rw [beq_eq_false_iff_ne]
          rintro rfl
          exact absurd hb.1 (by decide)
        simp only [Lib.atoi, e1, e2, hd]
        show some ((n.toNat : Nat) : Int) = some n
        congr 1
        omega
  rw [this]
  rfl
theorem numL_itoa {n : Int} (h : amB n = true) : numL (Lib.itoa n) = n := by
  unfold numL
  rw [atoi_itoa h]

/-- The first component of an element; its number; the landed reading of one segment. -/
def wordL (l : List (List UInt8)) : List UInt8 := l.headD []
def numAt (s : Seg) (k : Nat) : Int := numL (wordL (atF s k))
def rStep (m : Msg) (s : Seg) : Msg :=
  if s.tag = tMSG then { m with kind := numAt s 0, frm := numAt s 1, to_ := numAt s 2, num := numAt s 3, day := numAt s 4 }
  else if s.tag = tLOT then { m with lot := numAt s 0, other := numAt s 1 }
  else if s.tag = tGDS then { m with code := wordL (atF s 0), ctry := wordL (atF s 1), qty := numAt s 2, amt := numAt s 3 }
  else if s.tag = tLST then { m with list := (atF s 0).map numL }
  else if s.tag = tTXT then { m with text := wordL (atF s 0) }
  else m
def readM (L : List Seg) : Msg := L.foldl rStep noMsg
theorem wordL_elS (s : List UInt8) : wordL (elS s) = s := by
  unfold elS
  split
  · rename_i h
    rw [h]
    rfl
  · rfl
theorem map_numL {l : List Int} (h : l.all amB = true) : (l.map Lib.itoa).map numL = l := by
  rw [List.map_map]
  rw [List.all_eq_true] at h
  conv => rhs; rw [← List.map_id l]
  exact List.map_congr_left fun x hx => numL_itoa (h x hx)
theorem numAt_row (t : List UInt8) (l : List Int) (k : Nat) (n : Int) (h : l[k]? = some n) (hn : amB n = true) : numAt (rowS t l) k = n := by
  unfold numAt atF rowS
  rw [List.getD_eq_getElem?_getD, List.getElem?_map, h]
  show numL (wordL (elS (Lib.itoa n))) = n
  rw [wordL_elS, numL_itoa hn]
/-- What was written is read; the last segment does not matter. -/
theorem read_front {m : Msg} (h : msgE m = 0) : readM (frontS m) = m := by
  obtain ⟨h1, h2, h3, h4, h5, h6⟩ := msg_ok h
  unfold rangeB at h1
  simp only [Bool.and_eq_true, decide_eq_true_eq] at h1
  obtain ⟨⟨a1, a2⟩, a3, a4, a5, a6, a7, a8, a9, a10⟩ := h1
  have n1 : amB m.kind = true := by simp [amB]; omega
  have n2 := inB_am a3 (by omega)
  have n3 := inB_am a4 (by omega)
  have n4 := inB_am a5 (by omega)
  have n5 := inB_am a6 (by omega)
  have n6 := inB_am a7 (by omega)
  have n7 := inB_am a8 (by omega)
  have n8 := numL_itoa (inB_am a9 (by omega))
  have n9 := numL_itoa a10
  have hl := map_numL h6
  obtain ⟨kind, frm, to_, num, day, lot, other, code, ctry, qty, amt, list, text⟩ := m
  dsimp only at *
  unfold readM frontS
  simp only [List.foldl_append]
  have g1 : List.foldl rStep noMsg [rowS tMSG [kind, frm, to_, num, day]] = ⟨kind, frm, to_, num, day, 0, 0, [], [], 0, 0, [], []⟩ := by
    show rStep noMsg (rowS tMSG [kind, frm, to_, num, day]) = _
    unfold rStep
    rw [if_pos (show (rowS tMSG [kind, frm, to_, num, day]).tag = tMSG from rfl), numAt_row _ _ 0 kind rfl n1, numAt_row _ _ 1 frm rfl n2, numAt_row _ _ 2 to_ rfl n3, numAt_row _ _ 3 num rfl n4, numAt_row _ _ 4 day rfl n5]
    rfl
  rw [g1]
  have g2 : List.foldl rStep ⟨kind, frm, to_, num, day, 0, 0, [], [], 0, 0, [], []⟩ (lotS_ ⟨kind, frm, to_, num, day, lot, other, code, ctry, qty, amt, list, text⟩) = ⟨kind, frm, to_, num, day, lot, other, [], [], 0, 0, [], []⟩ := by
    unfold lotS_
    split
    · rename_i hh
      dsimp only at hh
      rw [hh.1, hh.2]
      rfl
    · rw [List.foldl_cons, List.foldl_nil]
      unfold rStep
      rw [if_neg (by show ¬ tLOT = tMSG; decide), if_pos (show (rowS tLOT [lot, other]).tag = tLOT from rfl), numAt_row _ _ 0 lot rfl n6, numAt_row _ _ 1 other rfl n7]
  rw [g2]
  have g3 : List.foldl rStep ⟨kind, frm, to_, num, day, lot, other, [], [], 0, 0, [], []⟩ (gdsS ⟨kind, frm, to_, num, day, lot, other, code, ctry, qty, amt, list, text⟩) = ⟨kind, frm, to_, num, day, lot, other, code, ctry, qty, amt, [], []⟩ := by
    unfold gdsS
    split
    · rename_i hh
      dsimp only at hh
      rw [hh.1, hh.2.1, hh.2.2.1, hh.2.2.2]
      rfl
    · rw [List.foldl_cons, List.foldl_nil]
      unfold rStep numAt atF
      dsimp only
      rw [if_neg (by decide), if_neg (by decide), if_pos rfl]
      simp only [List.getD_cons_zero, List.getD_cons_succ, wordL_elS, n8, n9]
  rw [g3]
  have g4 : List.foldl rStep ⟨kind, frm, to_, num, day, lot, other, code, ctry, qty, amt, [], []⟩ (lstS ⟨kind, frm, to_, num, day, lot, other, code, ctry, qty, amt, list, text⟩) = ⟨kind, frm, to_, num, day, lot, other, code, ctry, qty, amt, list, []⟩ := by
    unfold lstS
    split
    · rename_i hh
      dsimp only at hh
      rw [hh]
      rfl
    · rw [List.foldl_cons, List.foldl_nil]
      unfold rStep atF
      dsimp only
      rw [if_neg (by decide), if_neg (by decide), if_neg (by decide), if_pos rfl]
      simp only [List.getD_cons_zero, hl]
  rw [g4]
  unfold txtS
  split
  · rename_i hh
    dsimp only at hh
    rw [hh]
    rfl
  · rw [List.foldl_cons, List.foldl_nil]
    unfold rStep atF
    dsimp only
    rw [if_neg (by decide), if_neg (by decide), if_neg (by decide), if_neg (by decide), if_pos rfl]
    simp only [List.getD_cons_zero, wordL_elS]
theorem rStep_end (m : Msg) {s : Seg} (h : s.tag = tEND) : rStep m s = m := by
  unfold rStep
  rw [h, if_neg (by decide), if_neg (by decide), if_neg (by decide), if_neg (by decide), if_neg (by decide)]
theorem gStep_end (m : Msg) {s : Seg} (h : s.tag = tEND) : gStep m s = m := by
  unfold gStep
  rw [h, if_neg (by decide), if_neg (by decide), if_neg (by decide), if_neg (by decide), if_neg (by decide)]
theorem read_end (L : List Seg) {s : Seg} (h : s.tag = tEND) : readM (L ++ [s]) = readM L := by
  unfold readM
  rw [List.foldl_append, List.foldl_cons, List.foldl_nil, rStep_end _ h]
theorem guess_end (L : List Seg) {s : Seg} (h : s.tag = tEND) : guessF (L ++ [s]) = guessF L := by
  unfold guessF
  rw [List.foldl_append, List.foldl_cons, List.foldl_nil, gStep_end _ h]
theorem guess_front {m : Msg} (h : msgE m = 0) : guessF (frontS m) = m := by
  rw [← guess_end (frontS m) (s := rowS tEND [((frontS m).length : Int) + 1, m.num]) rfl]
  exact guess_segs h

/-- Two segments are the same, whatever their elements before 'first' are. -/
def sameFrom (first : Nat) (a b : Seg) : Bool := (a.tag == b.tag) && ((a.els.length == b.els.length) && (a.els.drop first == b.els.drop first))
theorem same_zero (a b : Seg) : sameFrom 0 a b = true ↔ a = b := by
  obtain ⟨t, E⟩ := a
  obtain ⟨u, F⟩ := b
  simp only [sameFrom, List.drop_zero, Bool.and_eq_true, beq_iff_eq, Seg.mk.injEq]
  constructor
  · rintro ⟨h1, _, h2⟩; exact ⟨h1, h2⟩
  · rintro ⟨h1, h2⟩; exact ⟨h1, by rw [h2], h2⟩
/-- The lists agree but for the first element of the last segment. -/
def nearB (L M : List Seg) : Bool := (L.length == M.length) && ((L.dropLast == M.dropLast) && sameFrom 1 (L.getLastD noSeg) (M.getLastD noSeg))
/-- What find of the landed package returns. -/
def findL (L : List Seg) : Option Msg := if msgE (readM L) = 0 ∧ nearB L (segsM (readM L)) = true then some (readM L) else none
theorem near_iff (m : Msg) (L : List Seg) : nearB L (segsM m) = true ↔ ∃ e, L = frontS m ++ [⟨tEND, [e, [Lib.itoa m.num]]⟩] := by
  have hs : (segsM m).dropLast = frontS m := by unfold segsM; rw [List.dropLast_concat]
  have hl : (segsM m).getLastD noSeg = rowS tEND [((frontS m).length : Int) + 1, m.num] := by
    unfold segsM
    rw [List.getLastD_eq_getLast?, List.getLast?_concat]
    rfl
  unfold nearB
  rw [hs, hl]
  constructor
  · intro h
    simp only [Bool.and_eq_true, beq_iff_eq, sameFrom] at h
    obtain ⟨h1, h2, h3, h4, h5⟩ := h
    have hne : L ≠ [] := by
      rintro rfl
      unfold segsM at h1
      simp at h1
    obtain ⟨D, s, rfl⟩ : ∃ D s, L = D ++ [s] := ⟨L.dropLast, L.getLast hne, (List.dropLast_concat_getLast hne).symm⟩
    rw [List.dropLast_concat] at h2
    rw [List.getLastD_eq_getLast?, List.getLast?_concat] at h3 h4 h5
    simp only [Option.getD_some] at h3 h4 h5
    obtain ⟨t, E⟩ := s
    dsimp only at h3 h4 h5
    match E, h4, h5 with
    | [e, f], _, h5 =>
      refine ⟨e, ?_⟩
      rw [h2, h3]
      have : f = elS (Lib.itoa m.num) := by
        simp [rowS] at h5
        exact h5
      rw [this, elS_itoa]
      rfl
    | [], h4, _ => simp [rowS] at h4
    | [_], h4, _ => simp [rowS] at h4
    | _ :: _ :: _ :: _, h4, _ => simp [rowS] at h4
  · rintro ⟨e, rfl⟩
    simp only [Bool.and_eq_true, beq_iff_eq, sameFrom, List.dropLast_concat, List.getLastD_eq_getLast?, List.getLast?_concat, Option.getD_some]
    refine ⟨by unfold segsM; simp, trivial, rfl, rfl, ?_⟩
    simp [rowS, elS_itoa]
theorem find_some {L : List Seg} {m : Msg} : findL L = some m ↔ msgE m = 0 ∧ ∃ e, L = frontS m ++ [⟨tEND, [e, [Lib.itoa m.num]]⟩] := by
  unfold findL
  constructor
  · intro h
    split at h
    · rename_i h1
      obtain rfl := Option.some.inj h
      exact ⟨h1.1, (near_iff _ _).1 h1.2⟩
    · cases h
  · rintro ⟨h0, e, rfl⟩
    have : readM (frontS m ++ [⟨tEND, [e, [Lib.itoa m.num]]⟩]) = m := by
      rw [read_end _ (by rfl), read_front h0]
    rw [this, if_pos ⟨h0, (near_iff _ _).2 ⟨e, rfl⟩⟩]
/-- What the landed Parse returns. -/
def parseL (L : List Seg) : Msg × Int := match findL L with
  | none => (noMsg, 4)
  | some m => if atF (L.getLastD noSeg) 0 = [Lib.itoa L.length] then (m, 0) else (noMsg, 11)
theorem end_fix (m : Msg) (e : List (List UInt8)) : endFix (frontS m ++ [⟨tEND, [e, [Lib.itoa m.num]]⟩]) = segsM m := by
  unfold endFix
  rw [List.getLast?_concat]
  show (frontS m ++ [_]).dropLast ++ [_] = _
  rw [List.dropLast_concat]
  unfold segsM rowS
  simp [elS_itoa]
/-- The landed Parse is the one that the document asks. -/
theorem parse_land (L : List Seg) : parseL L = parseF L := by
  unfold parseL
  cases h : findL L with
  | some m =>
    obtain ⟨h0, e, rfl⟩ := find_some.1 h
    have hg : guessF (frontS m ++ [⟨tEND, [e, [Lib.itoa m.num]]⟩]) = m := by rw [guess_end _ (by rfl), guess_front h0]
    have hlast : (frontS m ++ [(⟨tEND, [e, [Lib.itoa m.num]]⟩ : Seg)]).getLastD noSeg = ⟨tEND, [e, [Lib.itoa m.num]]⟩ := by
      rw [List.getLastD_eq_getLast?, List.getLast?_concat]
      rfl
    have hlen : ((frontS m ++ [(⟨tEND, [e, [Lib.itoa m.num]]⟩ : Seg)]).length : Int) = ((frontS m).length : Int) + 1 := by simp
    show (if atF _ 0 = _ then _ else _) = _
    rw [hlast, hlen]
    have ha : atF (⟨tEND, [e, [Lib.itoa m.num]]⟩ : Seg) 0 = e := rfl
    rw [ha]
    unfold parseF
    rw [hg, if_pos h0]
    by_cases he : e = [Lib.itoa (((frontS m).length : Int) + 1)]
    · subst he
      rw [if_pos rfl, if_pos (by unfold segsM rowS; simp [elS_itoa])]
    · rw [if_neg he, if_neg (fun hh => by
        unfold segsM rowS at hh
        simp [elS_itoa] at hh
        exact he hh.symm), if_pos ⟨by unfold endLike; rw [List.getLast?_concat]; simp, (end_fix m e).symm⟩]
  | none =>
    show (noMsg, (4 : Int)) = _
    unfold parseF
    split
    · rename_i h1
      split
      · rename_i h2
        rw [find_some.2 ⟨h1, _, by rw [← elS_itoa]; exact h2.symm⟩] at h
        cases h
      · split
        · rename_i h2 h3
          exfalso
          obtain ⟨h3, h4⟩ := h3
          unfold endLike at h3
          cases hL : L.getLast? with
          | none => rw [hL] at h3; cases h3
          | some s =>
            rw [hL] at h3
            have h3 := of_decide_eq_true h3
            obtain ⟨D, rfl⟩ : ∃ D, L = D ++ [s] := ⟨L.dropLast, by
              have hne : L ≠ [] := by rintro rfl; cases hL
              rw [List.getLast?_eq_some_getLast hne] at hL
              rw [← Option.some.inj hL]
              exact (List.dropLast_concat_getLast hne).symm⟩
            unfold endFix at h4
            rw [hL] at h4
            simp only [List.dropLast_concat] at h4
            generalize hm : guessF (D ++ [s]) = m at *
            unfold segsM rowS at h4
            obtain ⟨e1, e2⟩ := List.append_inj' h4 rfl
            obtain ⟨t, E⟩ := s
            dsimp only at h3 e2
            obtain ⟨rfl, hE⟩ := h3
            match E, hE with
            | [e, f], _ =>
              simp [elS_itoa] at e2
              rw [find_some.2 ⟨h1, e, by rw [e1, e2.2]⟩] at h
              cases h
        · rfl
    · rfl
end Go.Proofs.YtepkihoakagidaaDoor
namespace Go.Proofs.YtepkihoakagidaaDoor
open Go.RowKit Go.WideShapes Go.ChangeShapes

theorem own : ownKnob Tryd.prog.godebug = none := by kernel_rfl
/-- What 'open_int' hands over of a uint64, as a natural number. -/
theorem nat_of_u64 {x : Int} (h : (Lit.int .u64 x).wf = true) : ∃ n : Nat, x = (n : Int) ∧ n < 18446744073709551616 := by
  simp [Lit.wf, IntKind.min, IntKind.max, IntKind.signed, IntKind.bits] at h
  exact ⟨x.toNat, by omega, by omega⟩
/-- What 'open_int' hands over of a uint8, as a natural number. -/
theorem nat_of_u8 {x : Int} (h : (Lit.int .u8 x).wf = true) : ∃ n : Nat, x = (n : Int) ∧ n < 256 := by
  simp [Lit.wf, IntKind.min, IntKind.max, IntKind.signed, IntKind.bits] at h
  exact ⟨x.toNat, by omega, by omega⟩

section
variable {H : Type} {enc : TypeId × Value → H} {P : Program}
theorem post_of_below {f : Func} {s : ChangeSpec} {apart fresh handsOn again : Bool} {W W' : World} {args : Array Value} {v : Value} {ds gs : List (DataW H)} {before pa pv : List MemPlace}
    (hW : DataW.Whole enc P f.params.toList s.vars apart W args.toList ds gs before)
    (hres : ∀ (b : Nat) (sp : Nat → Bool) (hd : Bool), DataW.TrodAll enc P W' b sp hd f.resultTypes.toList (v.resultList f.resultTypes.size) (s.fn H (ds ++ gs)).results [])
    (hargs : ∀ sp : Nat → Bool, (∀ p ∈ before, sp p.block = true) → DataW.TrodAll enc P W' 0 sp true f.params.toList args.toList (s.fn H (ds ++ gs)).args pa)
    (hvars : ∀ sp : Nat → Bool, (∀ p ∈ before, sp p.block = true) → DataW.TrodVars enc P W' sp s.vars (s.fn H (ds ++ gs)).vars pv)
    (hps : before = pa ++ pv) (hb : Below W.heap.size W W')
    (hok : ∀ (j : Nat) (t : TypeId) (r : Value), f.resultTypes[j]? = some t → (v.resultList f.resultTypes.size)[j]? = some r → Value.okWide P W' .any 0 t r) :
    s.post enc P f apart fresh handsOn again W args v W' := by
  have hlt : ∀ p ∈ before, p.block < W.heap.size := fun p hp => hW.lt p hp
  have hold : ∀ p ∈ before, (fun b => decide (b < W.heap.size)) p.block = true := fun p hp => by simpa using hlt p hp
  refine ⟨ds, gs, before, [], pa, pv, hW, hres _ _ _, hargs _ hold, hvars _ hold, World.keptBut_mono (fun p hp => ⟨hp, ?_⟩) (hb.frame (· ∈ before)), fun _ => ?_⟩
  · rw [hps, List.mem_append] at hp
    exact Or.inr hp
  · obtain ⟨_, _, _, _, _, hz, hn⟩ := hW
    refine ⟨hok, _, _, ([] ++ pa) ++ pv, ⟨[] ++ pa, pv, trodAll_append (hargs _ (fun _ _ => rfl)) (hres _ _ _), hvars _ (fun _ _ => rfl), rfl, ?_, ?_⟩, ?_⟩
    · intro b off hp
      have hin : MemPlace.cell b off ∈ before := by rw [hps]; simpa using hp
      rw [hb.frozen (hlt _ hin)]
      exact hz b off hin
    · intro ha
      have := hn ha
      rw [hps] at this
      simpa using this
    · intro p hp _
      rw [hps]
      simpa using hp
end
end Go.Proofs.YtepkihoakagidaaDoor
namespace Go.Proofs.YtepkihoakagidaaDoor
open Go.RowKit Go.WideShapes Go.ChangeShapes

section
variable {H : Type} {enc : TypeId × Value → H} {P : Program}
theorem trodAll_stays (hl : laidOutB P = true) {W W' : World} {sp' : Nat → Bool} : ∀ {ts : List TypeId} {vs : List Value} {ds : List (DataW H)} {ps : List MemPlace},
    (ts.all fun t => P.readableRec t && decide (t < P.types.size)) = true → DataW.TrodAll enc P W 0 (fun _ => true) true ts vs ds ps → (∀ p ∈ ps, W.sameAt W' p) → (∀ p ∈ ps, sp' p.block = true) → DataW.TrodAll enc P W' 0 sp' true ts vs ds ps
  | [], [], [], _, _, h, _, _ => h
  | [], [], _ :: _, _, _, h, _, _ => h.elim
  | [], _ :: _, _, _, _, h, _, _ => h.elim
  | _ :: _, [], _, _, _, h, _, _ => h.elim
  | _ :: _, _ :: _, [], _, _, h, _, _ => h.elim
  | t :: ts, v :: vs, d :: ds, ps, hr, h, hsame, hs => by
    obtain ⟨p, q, h1, h2, rfl⟩ := h
    simp only [List.all_cons, Bool.and_eq_true, decide_eq_true_eq] at hr
    exact ⟨p, q, WideElems.Trod_stays hl hr.1.1 hr.1.2 h1 (fun x hx => hsame x (List.mem_append.2 (.inl hx))) (fun x hx => hs x (List.mem_append.2 (.inl hx))),
      trodAll_stays hl hr.2 h2 (fun x hx => hsame x (List.mem_append.2 (.inr hx))) (fun x hx => hs x (List.mem_append.2 (.inr hx))), rfl⟩

/-- A law's outcome: true; the arguments as they were; nothing older than the call has turned. -/
theorem post_of_law {f : Func} {s : ChangeSpec} {apart fresh handsOn again : Bool} {W W' : World} {args : Array Value} {ds gs : List (DataW H)} {before : List MemPlace} {tb : TypeId}
    (hW : DataW.Whole enc P f.params.toList s.vars apart W args.toList ds gs before)
    (hl : laidOutB P = true) (hr : (f.params.toList.all fun t => P.readableRec t && decide (t < P.types.size)) = true)
    (hv : s.vars = []) (hs : ∀ l : List (DataW H), l = ds → s.fn H (l ++ []) = { results := [.lit (.bool true)], args := l }) (hrt : f.resultTypes = #[tb]) (htb : P.underlying tb = some .bool)
    (hb : Below W.heap.size W W') : s.post enc P f apart fresh handsOn again W args (.bool true) W' := by
  have hW0 := hW
  obtain ⟨p, q, hA, hV, rfl, _, _⟩ := hW0
  rw [hv] at hV
  obtain ⟨rfl, rfl⟩ := trodVars_none hV
  have e := hs ds rfl
  have hlt : ∀ x ∈ p ++ [], x.block < W.heap.size := fun x hx => hW.lt x hx
  refine post_of_below (pa := p) (pv := []) hW ?_ ?_ ?_ rfl hb ?_
  · intro b sp hd
    rw [e, hrt]
    exact trodAll_cons_mk (shut_bool htb _) trodAll_mk0
  · intro sp hsp
    rw [e]
    exact trodAll_stays hl hr hA (fun x hx => hb.same (hlt x (by simpa using hx))) (fun x hx => hsp x (by simpa using hx))
  · intro sp _
    rw [e, hv]
    rfl
  · exact ok_one hrt rfl (okWide_bool_mk htb _)

/-- A list of n integers f 0 .. f (n - 1): nil, or its cells. -/
def ListAt (w : World) (k : IntKind) (v : Value) (n : Nat) (f : Nat → Int) : Prop :=
  (v = .slice none 0 0 ∧ n = 0) ∨ ∃ (a : Addr) (cap : Nat), v = .slice (some a) n cap ∧ n ≤ cap ∧ cap ≤ maxLen ∧ ∀ i, i < n → w.cell? (a.add i) = some (.int k (f i)) ∧ (Lit.int k (f i)).wf = true
theorem open_list {r : Reach} {b0 : Nat} {w : World} {sp : Nat → Bool} {held : Bool} {t e : TypeId} {k : IntKind} {v : Value} {d : DataW H} {ps : List MemPlace} (ht : P.underlying t = some (.slice e)) (he : P.underlying e = some (.int k)) (hc : P.cellsOf e = 1)
    (hval : Value.okWide P w r b0 t v) (hd : DataW.Trod enc P w 0 sp held t v d ps) : ∃ (n : Nat) (f : Nat → Int), ListAt w k v n f := by
  obtain ⟨a0, l0, c0, rfl⟩ := okWide_slice ht hval
  obtain ⟨fuel, hf⟩ := hd
  rcases open_ints ht he hc hf with ⟨h1, _⟩ | ⟨a, len, cap, zs, h1, _, h2, h3, h4, _, h5, h6⟩
  · simp [Value.cells] at h1
    obtain ⟨rfl, rfl, rfl⟩ := h1
    exact ⟨0, fun _ => 0, Or.inl ⟨rfl, rfl⟩⟩
  · simp [Value.cells] at h1
    obtain ⟨rfl, rfl, rfl⟩ := h1
    have hz : l0 ≤ zs.length := by rw [h4]; split <;> omega
    refine ⟨l0, fun i => zs.getD i 0, Or.inr ⟨a, c0, rfl, h2, h3, fun i hi => ⟨h5 i (by omega), h6 _ ?_⟩⟩⟩
    show zs.getD i 0 ∈ zs
    have : zs.getD i 0 = zs[i]'(by omega) := by simp [List.getD, show i < zs.length by omega]
    rw [this]
    exact List.getElem_mem _
end
end Go.Proofs.YtepkihoakagidaaDoor
namespace Go.Proofs.YtepkihoakagidaaDoor
open Go.RowKit Go.WideShapes Go.ChangeShapes Go.Deep

/-- A text as a value. -/
def strV (x : List UInt8) : Value := .string ⟨x.toArray⟩
theorem strV_of (s : ByteArray) : (.string s : Value) = strV s.data.toList := rfl
theorem add_block (a : Addr) (j : Nat) : (a.add j).block = a.block := by unfold Addr.add; split <;> rfl
/-- n elements of 'size' cells each: nil, or cells in a block that has p. -/
def CellsIn (p : Nat → Prop) (w : World) (size : Nat) (v : Value) (n : Nat) (xs : List Value) : Prop :=
  xs.length = n * size ∧ ((v = .slice none 0 0 ∧ n = 0) ∨ ∃ (a : Addr) (cap : Nat), v = .slice (some a) n cap ∧ n ≤ cap ∧ cap ≤ maxLen ∧ (0 < n → p a.block) ∧ ∀ j u, xs[j]? = some u → w.cell? (a.add j) = some u)
theorem CellsIn.keep {p q : Nat → Prop} {w w1 : World} {size : Nat} {v : Value} {n : Nat} {xs : List Value} (h : CellsIn p w size v n xs) (hk : ∀ b, p b → q b ∧ w1.heap[b]? = w.heap[b]?) : CellsIn q w1 size v n xs := by
  obtain ⟨h1, h2 | ⟨a, cap, h2, h3, h4, h5, h6⟩⟩ := h
  · exact ⟨h1, .inl h2⟩
  · refine ⟨h1, .inr ⟨a, cap, h2, h3, h4, fun hn => (hk _ (h5 hn)).1, fun j u hj => ?_⟩⟩
    have hn : 0 < n := by
      rcases Nat.eq_zero_or_pos n with hz | hz
      · subst hz
        have := (List.getElem?_eq_some_iff.1 hj).1
        omega
      · exact hz
    exact (World.cell?_of_block (a := a.add j) (by rw [add_block]; exact (hk _ (h5 hn)).2)).trans (h6 j u hj)
theorem CellsIn.own {w : World} {base : Nat} {e : TypeId} {size : Nat} {v : Value} {n : Nat} {xs : List Value} (h : w.ownsRow base e size v n xs) : CellsIn (fun b => base ≤ b ∧ b < w.heap.size ∧ v.ownBlock = some b) w size v n xs := by
  refine ⟨h.1, ?_⟩
  have h2 := h.2
  rcases h2 with h2 | ⟨g, cap, cur, rfl, hb, hg, h3, h4, h5, h6⟩
  · exact .inl h2
  · exact .inr ⟨_, cap, rfl, h3, h4, fun _ => ⟨hb, (Array.getElem?_eq_some_iff.1 hg).1, rfl⟩, fun j u hj => h.cells (g := g) rfl j u hj⟩
/-- The cells of a list that came in. -/
theorem CellsIn.at_ {p : Nat → Prop} {w : World} {size : Nat} {v : Value} {n : Nat} {xs : List Value} (h : CellsIn p w size v n xs) (hn : 0 < n) : ∃ (a : Addr) (cap : Nat), v = .slice (some a) n cap ∧ n ≤ cap ∧ cap ≤ maxLen ∧ p a.block ∧ ∀ j u, xs[j]? = some u → w.cell? (a.add j) = some u := by
  obtain ⟨_, ⟨_, h2⟩ | h2⟩ := h
  · omega
  · obtain ⟨a, cap, h3, h4, h5, h6, h7⟩ := h2
    exact ⟨a, cap, h3, h4, h5, h6 hn, h7⟩

/-- A list of texts. -/
def StrsIn (p : Nat → Prop) (w : World) (v : Value) (l : List (List UInt8)) : Prop := CellsIn p w 1 v l.length (l.map strV) ∧ ∀ x ∈ l, x.length ≤ maxLen
theorem StrsIn.keep {p q : Nat → Prop} {w w1 : World} {v : Value} {l : List (List UInt8)} (h : StrsIn p w v l) (hk : ∀ b, p b → q b ∧ w1.heap[b]? = w.heap[b]?) : StrsIn q w1 v l := ⟨h.1.keep hk, h.2⟩
/-- A list of lists of texts. -/
def ElemsIn (p : Nat → Prop) (w : World) (v : Value) (E : List (List (List UInt8))) : Prop := ∃ us : List Value, CellsIn p w 1 v E.length us ∧ ∀ (i : Nat) (e : List (List UInt8)), E[i]? = some e → ∃ u, us[i]? = some u ∧ StrsIn p w u e
theorem ElemsIn.keep {p q : Nat → Prop} {w w1 : World} {v : Value} {E : List (List (List UInt8))} (h : ElemsIn p w v E) (hk : ∀ b, p b → q b ∧ w1.heap[b]? = w.heap[b]?) : ElemsIn q w1 v E := by
  obtain ⟨us, h1, h2⟩ := h
  exact ⟨us, h1.keep hk, fun i e hi => by
    obtain ⟨u, h3, h4⟩ := h2 i e hi
    exact ⟨u, h3, h4.keep hk⟩⟩
/-- A list of texts, as a walk reads it. -/
theorem StrsIn.form {p : Nat → Prop} {w : World} {v : Value} {l : List (List UInt8)} (h : StrsIn p w v l) : ∃ (ao : Option Addr) (cap : Nat), v = .slice ao l.length cap ∧ l.length ≤ maxLen ∧
    ∀ (k : Nat) (x : List UInt8), l[k]? = some x → ∃ a, ao = some a ∧ w.cell? (a.add k) = some (strV x) ∧ x.length ≤ maxLen := by
  obtain ⟨⟨h1, h2 | ⟨a, cap, h2, h3, h4, h5, h6⟩⟩, h7⟩ := h
  · refine ⟨none, 0, by rw [h2.1, h2.2], by rw [h2.2]; exact Nat.zero_le _, fun k x hk => ?_⟩
    have := (List.getElem?_eq_some_iff.1 hk).1
    omega
  · exact ⟨some a, cap, h2, Nat.le_trans h3 h4, fun k x hk => ⟨a, rfl, h6 k _ (by rw [List.getElem?_map, hk]; rfl), h7 x (List.mem_of_getElem? hk)⟩⟩
theorem ElemsIn.form {p : Nat → Prop} {w : World} {v : Value} {E : List (List (List UInt8))} (h : ElemsIn p w v E) : ∃ (ao : Option Addr) (cap : Nat), v = .slice ao E.length cap ∧ E.length ≤ maxLen ∧
    ∀ (k : Nat) (e : List (List UInt8)), E[k]? = some e → ∃ a u, ao = some a ∧ w.cell? (a.add k) = some u ∧ StrsIn p w u e := by
  obtain ⟨us, ⟨h1, h2 | ⟨a, cap, h2, h3, h4, h5, h6⟩⟩, h7⟩ := h
  · refine ⟨none, 0, by rw [h2.1, h2.2], by rw [h2.2]; exact Nat.zero_le _, fun k x hk => ?_⟩
    have := (List.getElem?_eq_some_iff.1 hk).1
    omega
  · refine ⟨some a, cap, h2, Nat.le_trans h3 h4, fun k e hk => ?_⟩
    obtain ⟨u, h8, h9⟩ := h7 k e hk
    exact ⟨a, u, rfl, h6 k u h8, h9⟩
/-- Blocks that a world has. -/
def Has_ (w : World) (b : Nat) : Prop := b < w.heap.size
theorem has_keep {w w1 : World} (hb : Below w.heap.size w w1) : ∀ b, Has_ w b → Has_ w1 b ∧ w1.heap[b]? = w.heap[b]? := fun b h => ⟨Nat.lt_of_lt_of_le h hb.size, hb.block b h⟩

theorem range_map {α : Type} (f : Nat → α) (len j : Nat) (u : α) (h : ((List.range len).map f)[j]? = some u) : j < len ∧ f j = u := by
  have h1 := (List.getElem?_eq_some_iff.1 h).1
  simp only [List.length_map, List.length_range] at h1
  rw [List.getElem?_map, List.getElem?_range h1] at h
  exact ⟨h1, Option.some.inj h⟩
section
variable {H : Type} {enc : TypeId × Value → H} {P : Program}
theorem open_strs {w : World} {sp : Nat → Bool} {held : Bool} {t e : TypeId} {fuel : Nat} {v : Value} {x : DataW H × List MemPlace} (ht : P.underlying t = some (.slice e)) (he : P.underlying e = some .string) (hc : P.cellsOf e = 1)
    (h : DataW.trod enc P w 0 sp held fuel t [v] = some x) : ∃ l : List (List UInt8), StrsIn (Has_ w) w v l := by
  rcases open_slice1 ht hc h with ⟨h1, _⟩ | ⟨a, len, cap, m, n, V, D, Pl, h1, _, h2, h3, h4, _, hx⟩
  · obtain rfl := List.head_eq_of_cons_eq h1
    exact ⟨[], ⟨⟨rfl, .inl ⟨rfl, rfl⟩⟩, fun x hx => absurd hx (by simp)⟩⟩
  · obtain rfl := List.head_eq_of_cons_eq h1
    have hm : len ≤ m := by rw [h4]; split <;> omega
    have each : ∀ i, i < len → ∃ s : ByteArray, s.size ≤ maxLen ∧ w.cell? (a.add i) = some (.string s) := by
      intro i hi
      obtain ⟨g1, g2⟩ := hx i (by omega)
      obtain ⟨s, z0, _, z1⟩ := DataW.trod_string he g2
      rw [List.head_eq_of_cons_eq z0] at g1
      exact ⟨s, z1, g1⟩
    obtain ⟨q, hq⟩ := choose_lt each
    refine ⟨(List.range len).map fun i => (q i).data.toList, ⟨⟨by simp, .inr ⟨a, cap, by simp, by simpa using h2, h3, fun h0 => ?_, ?_⟩⟩, ?_⟩⟩
    · exact World.block_lt_of_cell? w _ (hq 0 (by simpa using h0)).2
    · intro j u hj
      rw [List.map_map] at hj
      obtain ⟨hj1, rfl⟩ := range_map _ len j u hj
      exact (hq j hj1).2
    · intro x hx
      simp at hx
      obtain ⟨i, hi, rfl⟩ := hx
      simpa using (hq i hi).1
theorem open_elems {w : World} {sp : Nat → Bool} {held : Bool} {t e f : TypeId} {fuel : Nat} {v : Value} {x : DataW H × List MemPlace} (ht : P.underlying t = some (.slice e)) (he : P.underlying e = some (.slice f)) (hf : P.underlying f = some .string) (hc : P.cellsOf e = 1) (hc2 : P.cellsOf f = 1)
    (h : DataW.trod enc P w 0 sp held fuel t [v] = some x) : ∃ E : List (List (List UInt8)), ElemsIn (Has_ w) w v E := by
  rcases open_slice1 ht hc h with ⟨h1, _⟩ | ⟨a, len, cap, m, n, V, D, Pl, h1, _, h2, h3, h4, _, hx⟩
  · obtain rfl := List.head_eq_of_cons_eq h1
    exact ⟨[], [], ⟨rfl, .inl ⟨rfl, rfl⟩⟩, fun i e hi => by simp at hi⟩
  · obtain rfl := List.head_eq_of_cons_eq h1
    have hm : len ≤ m := by rw [h4]; split <;> omega
    have each : ∀ i, i < len → ∃ l : List (List UInt8), StrsIn (Has_ w) w (V i) l := fun i hi => open_strs he hf hc2 (hx i (by omega)).2
    obtain ⟨q, hq⟩ := choose_lt each
    refine ⟨(List.range len).map q, (List.range len).map V, ⟨by simp, .inr ⟨a, cap, by simp, by simpa using h2, h3, fun h0 => ?_, ?_⟩⟩, ?_⟩
    · exact World.block_lt_of_cell? w _ (hx 0 (by simp at h0; omega)).1
    · intro j u hj
      obtain ⟨hj1, rfl⟩ := range_map V len j u hj
      exact (hx j (by omega)).1
    · intro i e hi
      obtain ⟨hi1, rfl⟩ := range_map q len i e hi
      exact ⟨V i, by simp [hi1], hq i hi1⟩
end
end Go.Proofs.YtepkihoakagidaaDoor
namespace Go.Proofs.YtepkihoakagidaaDoor
open Go.RowKit

/-- The library's powers of ten, as Itoa reads them. -/
def MLib (w : World) : Prop := Lib.TabIs Tryd.prog w "internal/strconv.uint64pow10" .u64 Lib.pow10Tab
/-- The library's powers of ten and its two errors, as Itoa and Atoi read them. -/
structure MErr (w : World) : Prop where
  lib : MLib w
  eRange : ∃ tp p, w.var? Tryd.prog "strconv.ErrRange" = some #[.iface tp p]
  eSyntax : ∃ tp p, w.var? Tryd.prog "strconv.ErrSyntax" = some #[.iface tp p]
theorem mvar_keep {P : Program} {n : String} {cs : Array Value} {w w1 : World} (hb : Below w.heap.size w w1) (h : w.var? P n = some cs) : w1.var? P n = some cs := by
  unfold World.var? at h ⊢
  cases hg : P.globalNamed n with
  | none => rw [hg] at h; exact absurd h (by simp)
  | some g =>
    rw [hg] at h
    simp only [Option.bind_some] at h ⊢
    have hlt : g < w.heap.size := by
      rcases Nat.lt_or_ge g w.heap.size with h1 | h1
      · exact h1
      · rw [Array.getElem?_eq_none h1] at h
        exact absurd h (by simp)
    rw [hb.block g hlt]
    exact h
theorem MLib.keep {w w1 : World} (h : MLib w) (hb : Below w.heap.size w w1) : MLib w1 := mvar_keep hb h
theorem MErr.keep {w w1 : World} (h : MErr w) (hb : Below w.heap.size w w1) : MErr w1 := by
  obtain ⟨h2, ⟨a, b, h3⟩, ⟨c, d, h4⟩⟩ := h
  exact ⟨h2.keep hb, ⟨a, b, mvar_keep hb h3⟩, ⟨c, d, mvar_keep hb h4⟩⟩
/-- As the library lies in a world that grew over an elder one. -/
theorem MLib.since {n : Nat} {w w1 : World} (h : MLib w) (hb : Below n w w1) (hn : w.heap.size = n) : MLib w1 := by subst hn; exact h.keep hb
theorem mbelow_grow (w : World) (k : Nat) (os : Array Obj) : Below w.heap.size w (Sort.grow (w.drewN k) os) := by
  refine ⟨rfl, rfl, rfl, ?_, fun i hi => ?_⟩
  · show w.heap.size ≤ (w.heap ++ os).size
    simp
  · show (w.heap ++ os)[i]? = _
    rw [Array.getElem?_append_left hi]
theorem mItoa_any (n : Int) (h1 : -9223372036854775808 ≤ n) (h2 : n ≤ 9223372036854775807) (w : World) (hL : MLib w) :
    Calls Tryd.prog 42 #[.int .i64 n] w fun e w' => e = .returned (strV (Lib.itoa n)) ∧ Below w.heap.size w w' := by
  refine (Tryd.strconv_Itoa n h1 h2 w hL).mono ?_
  rintro e w1 ⟨rfl, k, os, rfl⟩
  exact ⟨rfl, mbelow_grow _ _ _⟩
theorem mAtoi_any (l : List UInt8) (hl : l.length ≤ 281474976710656) (w : World) (hL : MErr w) :
    Calls Tryd.prog 93 #[strV l] w fun e w' => ∃ x, e = .returned (.tuple #[.int .i64 (numL l), x]) ∧ Below w.heap.size w w' := by
  have e1 : (⟨l.toArray⟩ : ByteArray).size = l.length := by show l.toArray.size = _; simp
  unfold numL
  rcases hc : Lib.atoiAll l with v | _ | _
  · refine (Tryd.strconv_Atoi_ok ⟨l.toArray⟩ (by omega) v hc w).mono ?_
    rintro e w1 ⟨rfl, rfl | ⟨t, rfl⟩⟩
    · exact ⟨_, rfl, Below.refl _ _⟩
    · exact ⟨_, rfl, Lib.bytesWorld_below _ _ _⟩
  · obtain ⟨tp, p, hv⟩ := hL.eSyntax
    refine (Any.strconv_Atoi_syntax_var Tryd.laysC172 ⟨l.toArray⟩ (by omega) hc tp p w hv).mono ?_
    rintro e w1 ⟨N, rfl, _, _, hb⟩
    exact ⟨_, rfl, hb⟩
  · obtain ⟨tp, p, hv⟩ := hL.eRange
    refine (Tryd.strconv_Atoi_range_var ⟨l.toArray⟩ (by omega) hc tp p w hv).mono ?_
    rintro e w1 ⟨N, rfl, _, _, hb⟩
    exact ⟨_, rfl, hb⟩
theorem numL_range (l : List UInt8) : -9223372036854775808 ≤ numL l ∧ numL l ≤ 9223372036854775807 := by
  unfold numL
  rcases hc : Lib.atoiAll l with v | _ | _
  · have := Lib.atoiAll_bounds hc
    show -9223372036854775808 ≤ v ∧ v ≤ 9223372036854775807
    exact ⟨by omega, by omega⟩
  · show -9223372036854775808 ≤ (0 : Int) ∧ (0 : Int) ≤ 9223372036854775807
    exact ⟨by omega, by omega⟩
  · have := Lib.atoiSat_bounds l
    show -9223372036854775808 ≤ Lib.atoiSat l ∧ Lib.atoiSat l ≤ 9223372036854775807
    exact ⟨by omega, by omega⟩
end Go.Proofs.YtepkihoakagidaaDoor
namespace Go.Proofs.YtepkihoakagidaaDoor
open Go.RowKit Go.WideShapes Go.ChangeShapes

section
variable {H : Type} {enc : TypeId × Value → H}
/-- The builder of a row that lists variables: its contract may use both what they hold and the shape of the world. -/
theorem returnsInHanded_of_vars {C : Checked} {os : Os} {f : FuncId} {fn : Func} {s : ChangeSpec} {conds : List PathCond} {apart fresh handsOn again : Bool} {laid : List (String × DataW Unit)}
    (ho : ownKnob C.prog.godebug = none) (hos : os.Started) (hi : C.prog.inits.idxOf? f = none) (hf : C.prog.funcs[f]? = some fn)
    (wit : ∃ (w : World) (tape : Tape) (i : Input), w.os = os ∧ (w.forCall tape i).Shaped C.prog ∧ i.vars = [] ∧ Input.okWide C.prog (w.forCall tape i) .any w.heap.size f i ∧
      ((s.pre enc C.prog fn conds apart (w.forCall tape i).memory i.args ∧ laidMetH C.prog laid (w.forCall tape i).memory) ∧ sizedMet enc C.prog fn (OpenSpec.ofChange s) apart (w.forCall tape i).memory i.args) ∧
      ({} : Assume).holds C.prog (lone (Frame.enter C.prog f i.args .normal) [] (w.forCall tape i)))
    (walk : ∀ (W : World) (base : Nat) (args : Array Value) (ds gs : List (DataW H)) (before : List MemPlace),
      (∀ (j : Nat) t v, fn.params[j]? = some t → args[j]? = some v → Value.okWide C.prog W .any base t v) →
      DataW.Whole enc C.prog fn.params.toList s.vars apart W args.toList ds gs before → laidMetH C.prog laid W → W.ShapedOpen C.prog →
      Calls C.prog f args W fun e W' => ∃ v, e = .returned v ∧ s.post enc C.prog fn apart fresh handsOn again W args v W') :
    ReturnsInHanded {} C os f .any (fun w args => (s.pre enc C.prog fn conds apart w args ∧ laidMetH C.prog laid w) ∧ sizedMet enc C.prog fn (OpenSpec.ofChange s) apart w args) (s.post enc C.prog fn apart fresh handsOn again) :=
  returnsInHanded_of_calls ho hos hi wit fun w tape i _ shape _ ok pre _ => by
    obtain ⟨_, _, _, fn1, e1, _, _, _, _, vals⟩ := ok
    cases hf.symm.trans e1
    obtain ⟨⟨⟨ds, gs, before, whole, _⟩, met⟩, _⟩ := pre
    have same : (w.forCall tape i).memory.heap = (w.forCall tape i).heap := rfl
    refine (walk _ w.heap.size i.args ds gs before vals (whole.of_heap same) (met.of_heap same) shape).mono ?_
    rintro _ _ ⟨v, rfl, post⟩
    exact ChangeSpec.post_blind post
end

theorem laid_at {P : Program} {x : String × DataW Unit} {W : World} : ∀ {l : List (String × DataW Unit)}, x ∈ l → laidMet P l W → ∃ r, laidMet P (x :: r) W
  | _, .head r, h => ⟨r, h⟩
  | _, .tail _ hm, h => laid_at hm h.tail
end Go.Proofs.YtepkihoakagidaaDoor
namespace Go.Proofs.YtepkihoakagidaaDoor
open Go.RowKit Go.WideShapes Go.ChangeShapes

theorem mrow_error : ∀ u, Tryd.prog.typeName? 3 u = some "*errors.errorString" → u = 139 :=
  typeName_ptr_named (nm := "errors.errorString") (by kernel_rfl) (by kernel_rfl) (by decide)
theorem mcells_error : Tryd.prog.cellsOf 141 = 1 := by kernel_rfl
theorem mcells_text : Tryd.prog.cellsOf 9 = 1 := by kernel_rfl
/-- What a row's list says of the library's powers of ten. -/
theorem mlib_of {l : List (String × DataW Unit)} {W : World} (h : laidMet Tryd.prog l W) (m1 : ("internal/strconv.uint64pow10", Rows.laid_internal_strconv_uint64pow10) ∈ l) : MLib W := by
  obtain ⟨r1, h1⟩ := laid_at m1 h
  have e1 : (Rows.laid_internal_strconv_uint64pow10 : DataW Unit) = Lib.tabData .u64 Lib.pow10Tab := by kernel_rfl
  rw [e1] at h1
  exact Lib.tabIs_of_head (g := 0) (t := 112) (e := 104) (n := 20) (by kernel_rfl) (by kernel_rfl) Tryd.underlying112 Tryd.underlying104 (by kernel_rfl) (by kernel_rfl) h1
/-- .. and of its two errors. -/
theorem merr_of {l : List (String × DataW Unit)} {W : World} (h : laidMet Tryd.prog l W)
    (m1 : ("internal/strconv.uint64pow10", Rows.laid_internal_strconv_uint64pow10) ∈ l) (m2 : ("strconv.ErrRange", Rows.laid_strconv_ErrRange) ∈ l) (m3 : ("strconv.ErrSyntax", Rows.laid_strconv_ErrSyntax) ∈ l) : MErr W := by
  obtain ⟨r2, h2⟩ := laid_at m2 h
  obtain ⟨r3, h3⟩ := laid_at m3 h
  obtain ⟨a2, _, v2, _⟩ := laid_sentinel h2 (g := 4) (ti := 117) (by kernel_rfl) (by kernel_rfl) Tryd.underlying117 mrow_error Tryd.underlying139 Tryd.underlying141 rfl rfl Tryd.underlying9 mcells_error mcells_text
  obtain ⟨a3, _, v3, _⟩ := laid_sentinel h3 (g := 3) (ti := 117) (by kernel_rfl) (by kernel_rfl) Tryd.underlying117 mrow_error Tryd.underlying139 Tryd.underlying141 rfl rfl Tryd.underlying9 mcells_error mcells_text
  exact ⟨mlib_of h m1, ⟨_, _, v2⟩, ⟨_, _, v3⟩⟩
end Go.Proofs.YtepkihoakagidaaDoor
namespace Go.Proofs.YtepkihoakagidaaDoor
open Go.RowKit

/-- A list of segments: two cells each. -/
def SegsIn (p : Nat → Prop) (w : World) (v : Value) (L : List Seg) : Prop := ∃ us : List Value, CellsIn p w 2 v L.length us ∧ ∀ (i : Nat) (s : Seg), L[i]? = some s → us[i * 2]? = some (strV s.tag) ∧ s.tag.length ≤ maxLen ∧ ∃ u, us[i * 2 + 1]? = some u ∧ ElemsIn p w u s.els
theorem SegsIn.keep {p q : Nat → Prop} {w w1 : World} {v : Value} {L : List Seg} (h : SegsIn p w v L) (hk : ∀ b, p b → q b ∧ w1.heap[b]? = w.heap[b]?) : SegsIn q w1 v L := by
  obtain ⟨us, h1, h2⟩ := h
  exact ⟨us, h1.keep hk, fun i s hi => by
    obtain ⟨h3, h4, u, h5, h6⟩ := h2 i s hi
    exact ⟨h3, h4, u, h5, h6.keep hk⟩⟩
theorem SegsIn.form {p : Nat → Prop} {w : World} {v : Value} {L : List Seg} (h : SegsIn p w v L) : ∃ (ao : Option Addr) (cap : Nat), v = .slice ao L.length cap ∧ L.length ≤ maxLen ∧
    ∀ (k : Nat) (s : Seg), L[k]? = some s → ∃ a u, ao = some a ∧ w.cell? (a.add (k * 2)) = some (strV s.tag) ∧ w.cell? ⟨(a.add (k * 2)).block, (a.add (k * 2)).off + 1, none⟩ = some u ∧ ElemsIn p w u s.els ∧ s.tag.length ≤ maxLen := by
  obtain ⟨us, ⟨h1, h2 | ⟨a, cap, h2, h3, h4, h5, h6⟩⟩, h7⟩ := h
  · refine ⟨none, 0, by rw [h2.1, h2.2], by rw [h2.2]; exact Nat.zero_le _, fun k x hk => ?_⟩
    have := (List.getElem?_eq_some_iff.1 hk).1
    omega
  · refine ⟨some a, cap, h2, Nat.le_trans h3 h4, fun k s hk => ?_⟩
    obtain ⟨h8, h9, u, h10, h11⟩ := h7 k s hk
    exact ⟨a, u, rfl, h6 _ _ h8, (show w.cell? ((a.add (k * 2)).add 1) = some u by rw [Addr.add_add]; exact h6 _ _ h10), h11, h9⟩
end Go.Proofs.YtepkihoakagidaaDoor
namespace Go.Proofs.YtepkihoakagidaaDoor
open Go.RowKit

def byteV (b : UInt8) : Value := .int .u8 (b.toNat : Int)
/-- Nothing of the first n cells is frozen. -/
def FreeTo (fz : Nat × Nat) (n : Nat) : Prop := ∀ k, k < n → ¬ (fz.1 ≤ k ∧ k < fz.2)
/-- A row of bytes of the call's own: nil, or the head of a block from base on. -/
def ByteRow (w : World) (base : Nat) (e : TypeId) (v : Value) (l : List UInt8) : Prop :=
  (v = .slice none 0 0 ∧ l = []) ∨ ∃ (g cap : Nat) (cur : Array Value) (fz : Nat × Nat), v = .slice (some ⟨g, 0, none⟩) l.length cap ∧ base ≤ g ∧ w.heap[g]? = some (.cells cur e fz) ∧ FreeTo fz cur.size ∧
    l.length ≤ cap ∧ cap ≤ maxLen ∧ cur.size = cap ∧ cur.toList.take l.length = l.map byteV
theorem ByteRow.nil (w : World) (base : Nat) (e : TypeId) : ByteRow w base e (.slice none 0 0) [] := .inl ⟨rfl, rfl⟩
theorem ByteRow.lt {w : World} {base : Nat} {e : TypeId} {v : Value} {l : List UInt8} (h : ByteRow w base e v l) : ∀ k, v.ownBlock = some k → base ≤ k ∧ k < w.heap.size := by
  intro k hk
  rcases h with ⟨rfl, _⟩ | ⟨g, cap, cur, fz, rfl, hb, hg, _⟩
  · simp [Value.ownBlock] at hk
  · simp [Value.ownBlock] at hk
    subst hk
    exact ⟨hb, (Array.getElem?_eq_some_iff.1 hg).1⟩
theorem ByteRow.same {w w1 : World} {base : Nat} {e : TypeId} {v : Value} {l : List UInt8} (h : ByteRow w base e v l) (hk : ∀ k, v.ownBlock = some k → w1.heap[k]? = w.heap[k]?) : ByteRow w1 base e v l := by
  rcases h with h | ⟨g, cap, cur, fz, rfl, hb, hg, h1⟩
  · exact .inl h
  · exact .inr ⟨g, cap, cur, fz, rfl, hb, (hk g rfl).trans hg, h1⟩
theorem ByteRow.keep {w w1 : World} {base : Nat} {e : TypeId} {v : Value} {l : List UInt8} (h : ByteRow w base e v l) (hb : Below w.heap.size w w1) : ByteRow w1 base e v l :=
  h.same fun k hk => hb.block k (h.lt k hk).2
/-- The bytes, to be read. -/
theorem ByteRow.cells {w : World} {base : Nat} {e : TypeId} {v : Value} {l : List UInt8} (h : ByteRow w base e v l) : CellsIn (fun b => base ≤ b ∧ b < w.heap.size ∧ v.ownBlock = some b) w 1 v l.length (l.map byteV) := by
  refine ⟨by simp, ?_⟩
  rcases h with ⟨rfl, rfl⟩ | ⟨g, cap, cur, fz, rfl, hb, hg, _, h1, h2, h3, h4⟩
  · exact .inl ⟨rfl, rfl⟩
  · refine .inr ⟨_, cap, rfl, h1, h2, fun _ => ⟨hb, (Array.getElem?_eq_some_iff.1 hg).1, rfl⟩, fun j u hj => ?_⟩
    rw [Addr.add_lit, Nat.zero_add, cell_of_row w g j cur e fz hg]
    rw [← h4, List.getElem?_take] at hj
    split at hj
    · simpa using hj
    · cases hj
theorem FreeTo.zero (n : Nat) : FreeTo (0, 0) n := fun k _ h => absurd h.2 (Nat.not_lt_zero k)
theorem storeCells_free (P : Program) (g : Nat) (t : TypeId) (fz : Nat × Nat) : ∀ (vs : List Value) (o i : Nat) (cur : Array Value) (w : World), w.heap[g]? = some (.cells cur t fz) → FreeTo fz cur.size → o + i + vs.length ≤ cur.size → (∀ v ∈ vs, v.oneCell' = true) →
    (storeCells ⟨g, o, none⟩ vs i).run P w = .ok () (w.setRow g (cur.toList.take (o + i) ++ vs ++ cur.toList.drop (o + i + vs.length)).toArray)
  | [], o, i, cur, w, hg, _, _, _ => by
    simp only [storeCells, List.append_nil, List.length_nil, Nat.add_zero, List.take_append_drop, Array.toArray_toList]
    rw [setRow_self w g cur t fz hg]
    rfl
  | v :: rest, o, i, cur, w, hg, hfz, hl, h1 => by
    have hi : o + i < cur.size := by simp at hl; omega
    have hcell : w.cell? ⟨g, o + i, none⟩ = some cur[o + i] := by simp [World.cell?, hg, hi]
    have hfro : w.frozen? ⟨g, o + i, none⟩ = false := by
      have := hfz (o + i) hi
      simp only [World.frozen?, hg, Bool.and_eq_false_iff, decide_eq_false_iff_not]
      omega
    have hst : (store ((⟨g, o, none⟩ : Addr).add i) v).run P w = .ok () (w.setRow g (cur.setIfInBounds (o + i) v)) := by
      rw [Addr.add_lit, run_store P w _ v _ (h1 v (by simp)), hcell]
      simp [hfro, setCell_eq_setRow w g (o + i) cur t fz v hg]
    have ih := storeCells_free P g t fz rest o (i + 1) (cur.setIfInBounds (o + i) v) (w.setRow g (cur.setIfInBounds (o + i) v)) (setRow_heap w g cur _ t _ hg) (by simpa using hfz) (by simp at hl ⊢; omega) (fun x hx => h1 x (by simp [hx]))
    simp only [storeCells, Sem.run_bind, hst, Result.andThen_ok, ih, setRow_setRow]
    congr 3
    have e := list_seg_step cur.toList (o + i) v rest (by simp at hl ⊢; omega)
    simpa [Array.toList_setIfInBounds, Nat.add_assoc] using e

theorem ByteRow.of_own {w : World} {base : Nat} {e : TypeId} {v : Value} {l : List UInt8} {n : Nat} (h : w.ownsRow base e 1 v n (l.map byteV)) : ByteRow w base e v l := by
  have hn : l.length = n := by have := h.1; simpa using this
  subst hn
  rcases h.2 with ⟨h1, h2⟩ | ⟨g, cap, cur, rfl, hb, hg, h3, h4, h5, h6⟩
  · exact .inl ⟨h1, List.eq_nil_of_length_eq_zero h2⟩
  · exact .inr ⟨g, cap, cur, (0, 0), rfl, hb, hg, FreeTo.zero _, h3, h4, by simpa using h5, by simpa using h6⟩
theorem byte_one (l : List UInt8) : ∀ u ∈ l.map byteV, u.oneCell' = true := by
  intro u hu
  obtain ⟨b, _, rfl⟩ := List.mem_map.1 hu
  rfl
theorem grown_row {l ns : List UInt8} {cur : Array Value} (h1 : l.length + ns.length ≤ cur.size) (h2 : cur.toList.take l.length = l.map byteV) :
    ((cur.toList.take l.length ++ ns.map byteV ++ cur.toList.drop (l.length + ns.length)).toArray.size = cur.size) ∧ (cur.toList.take l.length ++ ns.map byteV ++ cur.toList.drop (l.length + ns.length)).toArray.toList.take (l ++ ns).length = (l ++ ns).map byteV := by
  constructor
  · simp only [List.size_toArray, List.length_append, List.length_take, List.length_drop, Array.length_toList, List.length_map]
    omega
  · rw [h2, List.map_append]
    have : (l.map byteV ++ ns.map byteV).length = (l ++ ns).length := by simp
    rw [← this]
    exact List.take_left
section
variable {P : Program}
/-- append of bytes that lie in memory. -/
theorem run_append_bytes (w : World) (base : Nat) (t ty e : TypeId) (i : TypeInfo) (ht : P.underlying t = some (.slice e)) (hi : P.info? e = some i) (hz : i.zero = some (.int .u8 0)) (hsize : i.size = 1) (hby : i.bytes = 1)
    (v : Value) (l : List UInt8) (hown : ByteRow w base e v l) (ad : Addr) (c : Nat) (ns : List UInt8) (hnews : ∀ j u, (ns.map byteV)[j]? = some u → w.cell? (ad.add j) = some u) (hm : l.length + ns.length ≤ 100000000000000) (hbase : base ≤ w.heap.size) :
    ∃ v' w', (Builtin.append_ #[t, t] ty #[v, .slice (some ad) ns.length c]).run P w = .ok v' w' ∧ ByteRow w' base e v' (l ++ ns) ∧ w.grownBy w' v.ownBlock := by
  have hmax : (100000000000000 : Nat) ≤ maxLen := by unfold maxLen; omega
  have hnl : (ns.map byteV).length = ns.length * i.size := by rw [hsize]; simp
  rcases hown with ⟨rfl, rfl⟩ | ⟨g, cap, cur, fz, rfl, hbg, hg, hfz, hnc, hcm, hcs, htake⟩
  · obtain ⟨v', w', r1, r2, r3, _⟩ := run_append_own (P := P) w base t ty e i (.int .u8 0) 1 1 ht hi hz hsize hby rfl (by omega) (.slice none 0 0) 0 [] ⟨rfl, .inl ⟨rfl, rfl⟩⟩ ad ns.length c (ns.map byteV) (by simp) hnews (byte_one ns) (by simp at hm; omega) (by simp at hm; omega) hbase
    exact ⟨v', w', r1, ByteRow.of_own (by simpa using r2), r3⟩
  · by_cases hroom : l.length + ns.length ≤ cap
    · have hf := run_firstCells_some (P := P) w 1 ns.length ad ns.length c (ns.map byteV) (by simp) hnews
      have hst := storeCells_free P g e fz (ns.map byteV) l.length 0 cur w hg hfz (by simp; omega) (byte_one ns)
      simp only [Nat.add_zero, List.length_map] at hst
      obtain ⟨z1, z2⟩ := grown_row (ns := ns) (show l.length + ns.length ≤ cur.size by omega) htake
      refine ⟨.slice (some ⟨g, 0, none⟩) (l.length + ns.length) cap, w.setRow g (cur.toList.take l.length ++ ns.map byteV ++ cur.toList.drop (l.length + ns.length)).toArray, ?_, ?_, ⟨rfl, rfl, rfl, by simp, fun k _ hk => setRow_other w g k _ (fun e => hk (by simp [Value.ownBlock, e]))⟩⟩
      · simp [Builtin.append_, run_underlying ht, sizeOf, typeInfo, hi, hsize, Builtin.lenOf, hroom, hf, Addr.add_lit, hst]
      · exact .inr ⟨g, cap, _, fz, by simp, hbg, setRow_heap w g cur _ e _ hg, by rw [z1]; exact hfz, by simpa using hroom, hcm, by rw [z1]; exact hcs, z2⟩
    · have holds := (ByteRow.cells (w := w) (base := base) (e := e) (v := .slice (some ⟨g, 0, none⟩) l.length cap) (l := l) (.inr ⟨g, cap, cur, fz, rfl, hbg, hg, hfz, hnc, hcm, hcs, htake⟩))
      have holds2 : ∀ j u, (l.map byteV)[j]? = some u → w.cell? ((⟨g, 0, none⟩ : Addr).add j) = some u := by
        rcases holds.2 with ⟨h1, _⟩ | ⟨a1, c1, h1, _, _, _, h2⟩
        · cases h1
        · cases h1
          exact h2
      have hr := run_append_grow (P := P) w t ty e i (.int .u8 0) ht hi hz ⟨g, 0, none⟩ l.length cap (l.map byteV) (by rw [hsize]; simp) holds2 ad ns.length c (ns.map byteV) hnl hnews (by omega) (by omega) (by rw [hby]; exact growslice_fits (by omega) (by omega))
      have hge := grownCap_ge w (l.length + ns.length) cap e
      have hcm2 : grownCap w (l.length + ns.length) cap e ≤ maxLen := grownCap_le_maxLen w (l.length + ns.length) cap e (by omega)
      refine ⟨_, _, hr, .inr ⟨w.heap.size, _, _, (0, 0), by simp, hbase, heap_alloc_new w.drew _, FreeTo.zero _, by simpa using hge, hcm2, ?_, ?_⟩, ⟨rfl, rfl, rfl, by simp, fun k hk _ => heap_alloc_old w.drew _ hk⟩⟩
      · have hz1 : (Value.int IntKind.u8 0).cells.size = 1 := rfl
        simp only [Array.size_append, List.size_toArray, size_zeroCells, hz1, List.length_map]
        omega
      · simp only [Array.toList_append, List.append_assoc]
        rw [← List.append_assoc, ← List.map_append]
        have : ((l ++ ns).map byteV).length = (l ++ ns).length := by simp
        rw [← this]
        exact List.take_left
theorem strCells_list (l : List UInt8) : Lib.strCells ⟨l.toArray⟩ = l.map byteV := rfl
/-- append of a text. -/
theorem run_append_text (w : World) (base : Nat) (t u ty e : TypeId) (i : TypeInfo) (ht : P.underlying t = some (.slice e)) (hu : P.underlying u = some .string) (hi : P.info? e = some i) (hz : i.zero = some (.int .u8 0)) (hsize : i.size = 1) (hby : i.bytes = 1)
    (v : Value) (l : List UInt8) (hown : ByteRow w base e v l) (ns : List UInt8) (hm : l.length + ns.length ≤ 100000000000000) (hbase : base ≤ w.heap.size) :
    ∃ v' w', (Builtin.append_ #[t, u] ty #[v, strV ns]).run P w = .ok v' w' ∧ ByteRow w' base e v' (l ++ ns) ∧ w.grownBy w' v.ownBlock := by
  have hmax : (100000000000000 : Nat) ≤ maxLen := by unfold maxLen; omega
  have hss : (⟨ns.toArray⟩ : ByteArray).size = ns.length := by show ns.toArray.size = _; simp
  unfold strV
  rcases hown with ⟨rfl, rfl⟩ | ⟨g, cap, cur, fz, rfl, hbg, hg, hfz, hnc, hcm, hcs, htake⟩
  · obtain ⟨v', w', r1, r2, r3, _⟩ := Lib.run_append_own_string (P := P) w base t u ty e i ht hu hi hz hsize hby (.slice none 0 0) 0 [] ⟨rfl, .inl ⟨rfl, rfl⟩⟩ ⟨ns.toArray⟩ (by rw [hss]; simp at hm; omega) (by rw [hss]; simp at hm; omega) hbase
    rw [strCells_list] at r2
    exact ⟨v', w', r1, ByteRow.of_own (by simpa using r2), r3⟩
  · by_cases hroom : l.length + ns.length ≤ cap
    · have hf := Lib.run_firstCells_string (P := P) w 1 ⟨ns.toArray⟩
      rw [strCells_list, hss] at hf
      have hst := storeCells_free P g e fz (ns.map byteV) l.length 0 cur w hg hfz (by simp; omega) (byte_one ns)
      simp only [Nat.add_zero, List.length_map] at hst
      obtain ⟨z1, z2⟩ := grown_row (ns := ns) (show l.length + ns.length ≤ cur.size by omega) htake
      refine ⟨.slice (some ⟨g, 0, none⟩) (l.length + ns.length) cap, w.setRow g (cur.toList.take l.length ++ ns.map byteV ++ cur.toList.drop (l.length + ns.length)).toArray, ?_, ?_, ⟨rfl, rfl, rfl, by simp, fun k _ hk => setRow_other w g k _ (fun e => hk (by simp [Value.ownBlock, e]))⟩⟩
      · simp [Builtin.append_, run_underlying ht, run_underlying hu, sizeOf, typeInfo, hi, hsize, Builtin.lenOf, hss, hroom, hf, Addr.add_lit, hst]
      · exact .inr ⟨g, cap, _, fz, by simp, hbg, setRow_heap w g cur _ e _ hg, by rw [z1]; exact hfz, by simpa using hroom, hcm, by rw [z1]; exact hcs, z2⟩
    · have holds := (ByteRow.cells (w := w) (base := base) (e := e) (v := .slice (some ⟨g, 0, none⟩) l.length cap) (l := l) (.inr ⟨g, cap, cur, fz, rfl, hbg, hg, hfz, hnc, hcm, hcs, htake⟩))
      have holds2 : ∀ j u, (l.map byteV)[j]? = some u → w.cell? ((⟨g, 0, none⟩ : Addr).add j) = some u := by
        rcases holds.2 with ⟨h1, _⟩ | ⟨a1, c1, h1, _, _, _, h2⟩
        · cases h1
        · cases h1
          exact h2
      have hr := Lib.run_append_grow_string (P := P) w t u ty e i (.int .u8 0) ht hu hi hz ⟨g, 0, none⟩ l.length cap (l.map byteV) (by rw [hsize]; simp) holds2 ⟨ns.toArray⟩ (by rw [hss]; omega) (by rw [hss]; omega) (by rw [hby, hss]; exact growslice_fits (by omega) (by omega))
      rw [hss, strCells_list] at hr
      have hge := grownCap_ge w (l.length + ns.length) cap e
      have hcm2 : grownCap w (l.length + ns.length) cap e ≤ maxLen := grownCap_le_maxLen w (l.length + ns.length) cap e (by omega)
      refine ⟨_, _, hr, .inr ⟨w.heap.size, _, _, (0, 0), by simp, hbase, heap_alloc_new w.drew _, FreeTo.zero _, by simpa using hge, hcm2, ?_, ?_⟩, ⟨rfl, rfl, rfl, by simp, fun k hk _ => heap_alloc_old w.drew _ hk⟩⟩
      · have hz1 : (Value.int IntKind.u8 0).cells.size = 1 := rfl
        simp only [Array.size_append, List.size_toArray, size_zeroCells, hz1, List.length_map]
        omega
      · simp only [Array.toList_append, List.append_assoc]
        rw [← List.append_assoc, ← List.map_append]
        have : ((l ++ ns).map byteV).length = (l ++ ns).length := by simp
        rw [← this]
        exact List.take_left
/-- The operations, for the walk. -/
theorem wpList_append_bytes {ops : Array Oper} {rest : List Oper} {o : Oper} {a : Act} {w : World} {Q : Exit → Act → World → Prop} (hgd : o.guard = none) (s x : Operand) (t : TypeId)
    (ho : o.op = .call { callee := .builtin .append, args := #[s, x], argTypes := #[t, t] })
    (base : Nat) (e : TypeId) (i : TypeInfo) (ht : P.underlying t = some (.slice e)) (hi : P.info? e = some i) (hz : i.zero = some (.int .u8 0)) (hsize : i.size = 1) (hby : i.bytes = 1)
    (v : Value) (l : List UInt8) (hs : a.eval s = v) (hown : ByteRow w base e v l) (ad : Addr) (c : Nat) (ns : List UInt8) (hx : a.eval x = .slice (some ad) ns.length c)
    (hnews : ∀ j u, (ns.map byteV)[j]? = some u → w.cell? (ad.add j) = some u) (hm : l.length + ns.length ≤ 100000000000000) (hbase : base ≤ w.heap.size)
    (h : ∀ v' w', ByteRow w' base e v' (l ++ ns) → w.grownBy w' v.ownBlock → wpList P ops Q rest (a.put o.dst v') w') : wpList P ops Q (o :: rest) a w := by
  refine wpList_plain hgd fun K hK => ?_
  obtain ⟨v', w', hr, h2, h3⟩ := run_append_bytes (P := P) w base t o.type e i ht hi hz hsize hby v l hown ad c ns hnews hm hbase
  unfold Oper.wp execOp
  simp only [ho, resolve, invoke, builtin, Sem.run_bind, Sem.run_pure, Result.andThen_ok, List.map_toArray, List.map_cons, List.map_nil, hs, hx, hr]
  exact hK _ _ (h v' w' h2 h3)
theorem wpList_append_text {ops : Array Oper} {rest : List Oper} {o : Oper} {a : Act} {w : World} {Q : Exit → Act → World → Prop} (hgd : o.guard = none) (s x : Operand) (t u : TypeId)
    (ho : o.op = .call { callee := .builtin .append, args := #[s, x], argTypes := #[t, u] })
    (base : Nat) (e : TypeId) (i : TypeInfo) (ht : P.underlying t = some (.slice e)) (hu : P.underlying u = some .string) (hi : P.info? e = some i) (hz : i.zero = some (.int .u8 0)) (hsize : i.size = 1) (hby : i.bytes = 1)
    (v : Value) (l : List UInt8) (hs : a.eval s = v) (hown : ByteRow w base e v l) (ns : List UInt8) (hx : a.eval x = strV ns) (hm : l.length + ns.length ≤ 100000000000000) (hbase : base ≤ w.heap.size)
    (h : ∀ v' w', ByteRow w' base e v' (l ++ ns) → w.grownBy w' v.ownBlock → wpList P ops Q rest (a.put o.dst v') w') : wpList P ops Q (o :: rest) a w := by
  refine wpList_plain hgd fun K hK => ?_
  obtain ⟨v', w', hr, h2, h3⟩ := run_append_text (P := P) w base t u o.type e i ht hu hi hz hsize hby v l hown ns hm hbase
  unfold Oper.wp execOp
  simp only [ho, resolve, invoke, builtin, Sem.run_bind, Sem.run_pure, Result.andThen_ok, List.map_toArray, List.map_cons, List.map_nil, hs, hx, hr]
  exact hK _ _ (h v' w' h2 h3)
/-- Bytes converted to a text. -/
theorem run_text_of_cells {p : Nat → Prop} (w : World) (src dst e : TypeId) (v : Value) (l : List UInt8) (hs : P.underlying src = some (.slice e)) (he : P.underlying e = some (.int .u8)) (hd : P.underlying dst = some .string)
    (h : CellsIn p w 1 v l.length (l.map byteV)) : (convert src dst v).run P w = .ok (strV l) w := by
  obtain ⟨_, ⟨rfl, h0⟩ | ⟨a, cap, rfl, _, _, _, hc⟩⟩ := h
  · obtain rfl := List.eq_nil_of_length_eq_zero h0
    rw [run_convert_bytes_string _ _ _ e _ _ _ hs he hd]
    rfl
  · refine run_convert_bytes_back w src dst e a cap l hs he hd (fun j hj => hc j _ ?_)
    rw [List.getElem?_map, List.getElem?_eq_getElem hj]
    rfl
/-- A text converted to bytes. -/
theorem run_bytes_of_text (w : World) (src dst e : TypeId) (l : List UInt8) (hs : P.underlying src = some .string) (hd : P.underlying dst = some (.slice e)) (he : P.underlying e = some (.int .u8)) (hm : l.length ≤ maxLen) :
    ∃ w', (convert src dst (strV l)).run P w = .ok (.slice (some ⟨w.heap.size, 0, none⟩) l.length (grownCap w l.length 0 e)) w' ∧ ByteRow w' w.heap.size e (.slice (some ⟨w.heap.size, 0, none⟩) l.length (grownCap w l.length 0 e)) l ∧ Below w.heap.size w w' ∧ w'.heap.size = w.heap.size + 1 := by
  have hss : (⟨l.toArray⟩ : ByteArray).size = l.length := by show l.toArray.size = _; simp
  have hr := Lib.run_convert_string_bytes (P := P) w src dst e ⟨l.toArray⟩ hs hd he
  rw [hss] at hr
  have hge := grownCap_ge w l.length 0 e
  refine ⟨_, hr, .inr ⟨w.heap.size, _, Lib.bytesCells w e ⟨l.toArray⟩, _, rfl, Nat.le_refl _, Lib.bytesWorld_at_new w e ⟨l.toArray⟩, fun k hk hh => ?_, hge, grownCap_le_maxLen w _ 0 e hm, ?_, ?_⟩, ⟨rfl, rfl, rfl, by rw [Lib.bytesWorld_size]; omega, fun j hj => Lib.bytesWorld_at_old w e _ j hj⟩, Lib.bytesWorld_size w e _⟩
  · simp only at hh
    omega
  · unfold Lib.bytesCells
    simp only [Array.size_append, Array.size_map, Array.size_replicate]
    rw [hss]
    have : l.toArray.size = l.length := by simp
    omega
  · unfold Lib.bytesCells
    simp [byteV]
end
end Go.Proofs.YtepkihoakagidaaDoor
namespace Go.Proofs.YtepkihoakagidaaDoor
open Go.RowKit

theorem digits_small {x : Nat} (h : x < 10) : Lib.decDigits x = [UInt8.ofNat (48 + x)] := Lib.decDigits_one h
theorem digits_big {x : Nat} (h : ¬ x < 10) : Lib.decDigits x = Lib.decDigits (x / 10) ++ [UInt8.ofNat (48 + x % 10)] := by
  rw [Lib.decDigits, dif_neg h]

theorem digits_len (x : Nat) : (Lib.decDigits x).length ≤ x + 1 := by
  induction x using Nat.strongRecOn with
  | _ x ih =>
    by_cases h : x < 10
    · rw [digits_small h]; simp
    · rw [digits_big h, List.length_append]
      have := ih (x / 10) (by omega)
      simp
      omega
theorem one_cons (k : Nat) (l : List UInt8) : (⟨#[48 + UInt8.ofNat (k % 10)]⟩ : ByteArray) ++ ⟨l.toArray⟩ = ⟨(UInt8.ofNat (48 + k % 10) :: l).toArray⟩ := by
  have e : 48 + UInt8.ofNat (k % 10) = UInt8.ofNat (48 + k % 10) := by rw [UInt8.ofNat_add]; rfl
  rw [e]
  apply ByteArray.ext
  simp
/-- A text of one byte, made of a slice of one byte. -/
theorem one_byte (W : World) (v : Int) : (convert 32 9 (.slice (some ⟨W.heap.size, 0, none⟩) 1 1)).run Tryd.prog (W.alloc (.cells #[.int .u8 v] 5)) =
    .ok (.string ⟨#[UInt8.ofNat v.toNat]⟩) (W.alloc (.cells #[.int .u8 v] 5)) := by
  rw [run_convert_bytes_string _ _ _ 5 _ _ _ Tryd.underlying32 Tryd.underlying5 Tryd.underlying9]
  have h := run_loadCells_list (P := Tryd.prog) (w := W.alloc (.cells #[.int .u8 v] 5)) ⟨W.heap.size, 0, none⟩ [.int .u8 v] (by
    intro j u hj
    match j with
    | 0 =>
      simp at hj
      subst hj
      simp [go_sem, Addr.add]
    | j + 1 => simp at hj)
  exact run_bytesToString _ _ 1 1 [v] h

set_option maxHeartbeats 400000 in
theorem refDigits_any (n : Nat) (hn : n ≤ 1000000000000) (w : World) :
    Calls Tryd.prog 53 #[.int .i64 n] w fun e w' => e = .returned (.string ⟨(Lib.decDigits n).toArray⟩) ∧ Below w.heap.size w w' := by
  go_enter Tryd.func53, Tryd.ntmps53
  go_wp2
  go_loopw [0, 3] (fun t s wr => ∃ (x : Nat) (l : List UInt8), t = .int .i64 x ∧ s = .string ⟨l.toArray⟩ ∧ x ≤ n ∧ Hid (Lib.decDigits n = Lib.decDigits x ++ l) ∧ Below w.heap.size w wr)
    (fun t _ _ => (intOf t).toNat)
  case atStart => exact ⟨n, [], rfl, rfl, Nat.le_refl _, Lib.hid (by simp), Below.refl _ _⟩
  case round =>
    obtain ⟨x, l, rfl, rfl, hx, hd, hB⟩ := hrel
    have hc := one_byte wr (48 + (x : Int) % 10)
    have hlen : l.length ≤ 1000000000001 := by
      have h := congrArg List.length hd.out
      rw [List.length_append] at h
      have := digits_len n
      omega
    by_cases h10 : x < 10
    · have e1 : ((x : Int) / 10 == 0) = true := by rw [beq_iff_eq]; omega
      have hfin : Hid (Lib.decDigits n = UInt8.ofNat (48 + x % 10) :: l) := Lib.hid (by rw [hd.out, digits_small h10, Nat.mod_eq_of_lt h10]; rfl)
      go_wp2_with fail
      go_ret
      refine ⟨?_, by repeat (first | exact hB | (refine Below.alloc ?_ (by first | omega | exact hB.size | (simp; done) | (simp; omega)) _))⟩
      rw [hfin.out]
      exact congrArg (fun s => Ending.returned (.string s)) (one_cons x l)
    · have e1 : ((x : Int) / 10 == 0) = false := by rw [beq_eq_false_iff_ne]; omega
      have hnext : Hid (Lib.decDigits n = Lib.decDigits (x / 10) ++ UInt8.ofNat (48 + x % 10) :: l) := Lib.hid (by rw [hd.out, digits_big h10, List.append_assoc]; rfl)
      go_wp2_with fail
      go_roundw
      case rel => exact ⟨x / 10, UInt8.ofNat (48 + x % 10) :: l, by simp, congrArg Value.string (one_cons x l), by omega, hnext, hB.alloc hB.size _⟩
      case measure => simp [intOf]; omega
end Go.Proofs.YtepkihoakagidaaDoor
namespace Go.Proofs.YtepkihoakagidaaDoor
open Go.RowKit

theorem minus_cat (l : List UInt8) : (⟨#[45]⟩ : ByteArray) ++ ⟨l.toArray⟩ = ⟨(45 :: l).toArray⟩ := by
  apply ByteArray.ext
  simp
theorem refNumber_any (n : Int) (h1 : -1000000000000 ≤ n) (h2 : n ≤ 1000000000000) (w : World) :
    Calls Tryd.prog 47 #[.int .i64 n] w fun e w' => e = .returned (strV (Lib.itoa n)) ∧ Below w.heap.size w w' := by
  unfold Lib.itoa
  by_cases hn : n < 0
  · rw [if_pos hn]
    have HD := Lib.hid (refDigits_any n.natAbs (by omega))
    have e0 : (n.natAbs : Int) = -n := by omega
    have e1 : IntKind.i64.wrap (-n) = -n := by rw [IntKind.wrap_i64]; omega
    rw [e0] at HD
    have hcat := minus_cat (Lib.decDigits n.natAbs)
    have hl : (Lib.decDigits n.natAbs).length ≤ 1000000000001 := by have := digits_len n.natAbs; omega
    generalize Lib.decDigits n.natAbs = l at *
    have d1 : decide (n < 0) = true := decide_eq_true hn
    clear e0 hn h1 h2
    go_enter Tryd.func47, Tryd.ntmps47
    go_wp2_with fail
    refine (HD.out _).mono ?_
    rintro e w1 ⟨rfl, hb⟩
    go_wp2_with fail
    go_ret
    exact ⟨congrArg (fun s => Ending.returned (.string s)) hcat, hb⟩
  · rw [if_neg hn]
    obtain ⟨k, rfl⟩ : ∃ k : Nat, n = k := ⟨n.toNat, by omega⟩
    have HD := Lib.hid (refDigits_any k (by omega))
    rw [Int.toNat_natCast]
    generalize Lib.decDigits k = l at *
    clear h1 h2
    go_enter Tryd.func47, Tryd.ntmps47
    go_wp2_with fail
    refine (HD.out _).mono ?_
    rintro e w1 ⟨rfl, hb⟩
    go_wp2_with fail
    go_ret
    exact ⟨rfl, hb⟩

/-- The element of a text: nil, or a block of one text. -/
theorem refElement_any (s : List UInt8) (hs : s.length ≤ maxLen) (w : World) :
    Calls Tryd.prog 46 #[strV s] w fun e w' => (s = [] ∧ e = .returned (.slice none 0 0) ∧ w' = w) ∨ (s ≠ [] ∧ e = .returned (.slice (some ⟨w.heap.size, 0, none⟩) 1 1) ∧ w' = w.alloc (.cells #[strV s] 9)) := by
  by_cases h : s = []
  · subst h
    unfold strV
    go_enter Tryd.func46, Tryd.ntmps46
    go_wp2_with fail
    go_ret
    exact .inl (by simp)
  · have z1 : (s == []) = false := by rw [beq_eq_false_iff_ne]; exact h
    unfold strV
    have hh := Lib.hid h
    clear h
    go_enter Tryd.func46, Tryd.ntmps46
    go_wp2_with fail
    go_ret
    exact .inr ⟨hh.out, rfl, rfl⟩

theorem refIn_any (x n : Int) (w : World) : Calls Tryd.prog 31 #[.int .i64 x, .int .i64 n] w fun e w' => e = .returned (.bool (inB x n)) ∧ w = w' := by
  unfold inB
  obtain ⟨b1, h1⟩ : ∃ b, decide (0 ≤ x) = b := ⟨_, rfl⟩
  obtain ⟨b2, h2⟩ : ∃ b, decide (x ≤ n) = b := ⟨_, rfl⟩
  rw [h1, h2]
  cases b1 with
  | false =>
    clear h2
    go_enter Tryd.func31, Tryd.ntmps31
    go_wp2_with fail
    go_ret
    exact ⟨rfl, rfl⟩
  | true =>
    go_enter Tryd.func31, Tryd.ntmps31
    go_wp2_with fail
    go_ret
    exact ⟨rfl, rfl⟩
end Go.Proofs.YtepkihoakagidaaDoor
namespace Go.Proofs.YtepkihoakagidaaDoor
open Go.RowKit

theorem within_arith (x n : Int) (hn : 0 < n) : (x.tmod n + n).tmod n = x % n ∧ -n < x.tmod n ∧ x.tmod n < n := by
  have h1 : x.tmod n < n := Int.tmod_lt_of_pos x hn
  have h2 : -n < x.tmod n := by
    have := Int.tmod_lt_of_pos (-x) hn
    rw [Int.neg_tmod] at this
    omega
  refine ⟨?_, h2, h1⟩
  rw [Int.tmod_eq_emod_of_nonneg (by omega), Int.add_emod_right]
  have h3 := Int.mul_tdiv_add_tmod x n
  conv => rhs; rw [← h3, Int.add_comm, Int.add_mul_emod_self_left]

set_option maxHeartbeats 400000 in
theorem madeWithin_wide (x n : Int) (h1 : 0 < n) (h2 : n ≤ 4000000000000) (w : World) : Calls Tryd.prog 15 #[.int .i64 x, .int .i64 n] w fun e w' => e = .returned (.int .i64 (x % n)) ∧ w = w' := by
  obtain ⟨h3, h4, h5⟩ := within_arith x n h1
  have d1 : (n == 0) = false := by rw [beq_eq_false_iff_ne]; omega
  have hn : n ≠ 0 := by omega
  go_enter Tryd.func15, Tryd.ntmps15
  go_wp2_with fail
  go_ret
  exact ⟨rfl, rfl⟩
theorem madeWithin_any (x n : Int) (h1 : 0 < n) (h2 : n ≤ 1000000000000) (w : World) : Calls Tryd.prog 15 #[.int .i64 x, .int .i64 n] w fun e w' => e = .returned (.int .i64 (x % n)) ∧ w = w' := madeWithin_wide x n h1 (by omega) w
end Go.Proofs.YtepkihoakagidaaDoor
namespace Go.Proofs.YtepkihoakagidaaDoor
open Go.RowKit

theorem step_append_own {P : Program} {ops : Array Oper} {o : Oper} {a : Act} {w : World} {K : Act → World → Prop} {Q : Exit → Act → World → Prop} {E : Prop}
    (hg : o.guard = none) (s x : Operand) (t : TypeId) (hop : o.op = Op.call { callee := Callee.builtin Builtin.append, args := #[s, x], argTypes := #[t, t] })
    (base : Nat) (e : TypeId) (i : TypeInfo) (z : Value) (size bytes : Nat) (h1 : P.underlying t = some (.slice e)) (h2 : P.info? e = some i) (h3 : i.zero = some z) (h4 : i.size = size) (h5 : i.bytes = bytes) (h6 : z.cells.size = size) (h7 : 0 < size)
    (v : Value) (n : Nat) (xs : List Value) (hs : a.eval s = v) (hown : w.ownsRow base e size v n xs) (hbase : base ≤ w.heap.size)
    (ao : Option Addr) (m c : Nat) (news : List Value) (hx : a.eval x = .slice ao m c) (hn : news.length = m * size) (hnone : ao = none → m = 0 ∧ c = 0)
    (hc : ∀ ad, ao = some ad → ∀ j u, news[j]? = some u → w.cell? (ad.add j) = some u) (h1c : ∀ u ∈ news, u.oneCell' = true) (b1 : n + m ≤ maxLen) (b2 : (n + m) * bytes ≤ 140737488355328)
    (hK : ∀ v' w', w'.ownsRow base e size v' (n + m) (xs ++ news) → w.grownBy w' v.ownBlock → K (a.put o.dst v') w') :
    if Region.wanted o (yielded ops a.tmps) = true then Oper.wp P o a w K Q else E := by
  have hw : Region.wanted o (yielded ops a.tmps) = true := by simp [Region.wanted, hg]
  rw [if_pos hw]
  cases ao with
  | some ad =>
    obtain ⟨v', w', hrun, r1, r2, _⟩ := run_append_own (P := P) w base t o.type e i z size bytes h1 h2 h3 h4 h5 h6 h7 v n xs hown ad m c news hn (hc ad rfl) h1c b1 b2 hbase
    unfold Oper.wp
    simp [execOp, hop, resolve, invoke, builtin, hs, hx, hrun, Result.andThen]
    exact hK v' w' r1 r2
  | none =>
    obtain ⟨rfl, rfl⟩ := hnone rfl
    obtain rfl : news = [] := List.eq_nil_of_length_eq_zero (by simpa using hn)
    have hrun := run_append_owned_none (P := P) (w := w) base t o.type e i size h1 h2 v n xs hown
    unfold Oper.wp
    simp [execOp, hop, resolve, invoke, builtin, hs, hx, hrun, Result.andThen]
    exact hK v w (by simpa using hown) ⟨rfl, rfl, rfl, Nat.le_refl _, fun _ _ _ => rfl⟩
end Go.Proofs.YtepkihoakagidaaDoor
