/- What the landed Encode of package message returns. Condition: the message's cells are known, the library's table lies as it was laid.
What the landed functions of package message return, in the words that the laws use. Condition: the cells are known, the library's variables lie as they were laid.
What awake of layer 7's laws returns. No condition.
Messages in memory, as laws use them. No condition.
small: a message's list and text cut short. Condition: the message's cells are known.
A message written over another in its box. No condition.
The walk through MessageValidate. Condition: the message's and the list's cells are known.
The walk through MessageSegments. Condition: the list's cells are known.
What the landed Decode of package message returns. Condition: the bytes' cells are known, and there are not too many; the library's variables lie as they were laid.
What the landed Parse and Decode of package message return, in the words that the laws use. Condition: the cells are known, the texts are not too long, the library's variables lie as they were laid.
The walk through MessageRoundTrip. Condition: the list's cells are known.
The walk through MessageInjective. Condition: the lists' cells are known.
The walk through MessageChecksum. Condition: the bytes' cells are known. -/
import Derived.Test.YtepkihoakagidaaDoorZLMsgSegs
import Derived.Test.YtepkihoakagidaaDoorG4
import Derived.Test.YtepkihoakagidaaDoorG3
import Derived.Test.YtepkihoakagidaaDoorG2
import Derived.Lib.SlBytesConst
import Derived.Test.YtepkihoakagidaaDoorZMadeMsg
import Derived.Test.YtepkihoakagidaaDoorZMsgSegs
import Derived.Test.YtepkihoakagidaaDoorZMsgSame
import Derived.Deep.RegionHeld3
import Derived.Test.YtepkihoakagidaaDoorZLMsgParse
namespace Go.Proofs.YtepkihoakagidaaDoor
open Go.RowKit

set_option maxRecDepth 100000 in
set_option maxHeartbeats 1600000 in
theorem msgEncode_any (m : Msg) (v : Value) (w : World) (h : MsgIn (Has_ w) w v m) (hL : MLib w) :
    Calls Tryd.prog 16 #[v] w fun e w' => ∃ u, e = .returned (.tuple #[u, .int .i64 (msgE m)]) ∧ BytesIn (Has_ w') w' u (if msgE m = 0 then bytesM m else []) ∧ Below w.heap.size w w' := by
  have hIn := h
  obtain ⟨⟨vl, rfl, hN⟩, _, _, _⟩ := h
  obtain ⟨lo, lc, rfl, hll, _⟩ := hN.form
  obtain ⟨n, hn⟩ : ∃ n, m.list.length = n := ⟨_, rfl⟩
  have hB0 : Below w.heap.size w (w.alloc (.cells (msgCells m (.slice lo m.list.length lc)) 24)) := (Below.refl _ _).alloc (Nat.le_refl _) _
  have HS := Lib.hid (msgSegments_any m _ _ (hIn.later hB0) (hL.keep hB0))
  have HX := Lib.hid (MBox.new w m (.slice lo m.list.length lc))
  have HB0 := Lib.hid hB0
  have HE := Lib.hid (fun v L w h hn => segEncode_any v L w h hn)
  rw [hn] at HS HX HB0
  rw [hn]
  obtain ⟨R, hR⟩ : ∃ R, R = if msgE m = 0 then bytesM m else [] := ⟨_, rfl⟩
  rw [← hR]
  obtain ⟨E, hE⟩ : ∃ E, E = msgE m := ⟨_, rfl⟩
  rw [← hE] at HS hR ⊢
  have HE0 := Lib.hid hE
  have HR := Lib.hid hR
  obtain ⟨c0, c1, c2, c3, c4, c5, c6, c7, c8, c9, c10, c11, c12⟩ := HX.out.cells
  clear hn hll hN hIn hE hR hL hB0
  unfold msgV at *
  unfold msgCells at HX HB0 HS
  unfold strV at *
  go_enter Tryd.func16, Tryd.ntmps16
  go_wp2_with fail
  generalize w.alloc (.cells #[.int .i64 m.kind, .int .i64 m.frm, .int .i64 m.to_, .int .i64 m.num, .int .i64 m.day, .int .i64 m.lot, .int .i64 m.other, .string ⟨m.code.toArray⟩, .string ⟨m.ctry.toArray⟩, .int .i64 m.qty, .int .i64 m.amt, .slice lo n lc, .string ⟨m.text.toArray⟩] 24) = W at *
  refine HS.out.mono ?_
  rintro e w1 ⟨u, rfl, hu, hb⟩
  have HL1 := Lib.hid (HB0.out.trans (hb.mono HB0.out.size))
  have HU := Lib.hid hu
  clear hu hb HS HX HB0 c0 c1 c2 c3 c4 c5 c6 c7 c8 c9 c10 c11 c12
  by_cases h0 : E = 0
  · subst h0
    have hR := HR.out
    rw [if_pos rfl] at hR
    have HRR := Lib.hid hR
    have h0 : msgE m = 0 := HE0.out.symm
    have hu := HU.out
    rw [if_pos rfl] at hu
    obtain ⟨uo, uc, hue, _⟩ := hu.slice
    have HS2 := Lib.hid (HE.out _ _ _ hu (by have := front_len m; unfold segsM; simp; omega))
    rw [bytes_enc h0, ← hR] at HS2
    generalize (segsM m).length = k at *
    subst hue
    clear hR hu HU HR HE0 h0 HRR HE
    have z0 : ((0 : Int) != 0) = false := rfl
    go_wp2_with fail
    refine HS2.out.mono ?_
    rintro e w2 ⟨x, rfl, hx, hb⟩
    have HL2 := Lib.hid (HL1.out.trans (hb.mono HL1.out.size))
    have HX := Lib.hid hx
    clear hx hb HL1 HS2
    go_wp2_with fail
    have h1 := HX.out
    have h2 := HL2.out
    simp [bodyPost, results, Tryd.results16, go_sem]
    first | exact ⟨h1, h2⟩ | exact ⟨_, ⟨rfl, rfl⟩, h1, h2⟩
  · have z0 : (E != 0) = true := by rw [bne_iff_ne]; exact h0
    have hR := HR.out
    rw [if_neg h0] at hR
    subst hR
    have hu := HU.out
    rw [if_neg h0] at hu
    obtain ⟨uo, uc, rfl, _⟩ := hu.slice
    clear hu HU HR HE0 h0 HE
    go_wp2_with fail
    have h1 : BytesIn (Has_ w1) w1 (.slice none 0 0) [] := ⟨rfl, .inl ⟨rfl, rfl⟩⟩
    have h2 := HL1.out
    simp [bodyPost, results, Tryd.results16, go_sem]
    first | exact ⟨h1, h2⟩ | exact ⟨_, ⟨rfl, rfl⟩, h1, h2⟩
end Go.Proofs.YtepkihoakagidaaDoor
namespace Go.Proofs.YtepkihoakagidaaDoor
open Go.RowKit
/-- A list of segments that lies there as bytes are encoded from it. -/
theorem msgEncode_ok (m : Msg) (v : Value) (w : World) (h : MsgIn (Has_ w) w v m) (hL : MLib w) (h0 : msgE m = 0) :
    Calls Tryd.prog 16 #[v] w fun e w' => ∃ u, e = .returned (.tuple #[u, .int .i64 0]) ∧ BytesIn (Has_ w') w' u (bytesM m) ∧ Below w.heap.size w w' := by
  have h1 := msgEncode_any m v w h hL
  rw [if_pos h0, h0] at h1
  exact h1
end Go.Proofs.YtepkihoakagidaaDoor
namespace Go.Proofs.YtepkihoakagidaaDoor
open Go.RowKit

def awakeM : Msg := ⟨1, 2, 3, 4, 5, 6, 0, [], [], 0, 0, [], []⟩
def awakeB : List UInt8 := [77, 83, 71, 43, 49, 43, 50, 43, 51, 43, 52, 43, 53, 39, 76, 79, 84, 43, 54, 43, 48, 39, 69, 78, 68, 43, 51, 43, 52, 39]
def wikiB : List UInt8 := [87, 105, 107, 105, 112, 101, 100, 105, 97]
theorem itoa_digit (n : Nat) (h : n < 10) : Lib.itoa (n : Int) = [UInt8.ofNat (48 + n)] := by
  unfold Lib.itoa
  rw [if_neg (by omega)]
  rw [show ((n : Int)).toNat = n from by omega]
  exact Lib.decDigits_one h
theorem awake_ok : msgE awakeM = 0 := by decide
theorem awake_bytes : bytesM awakeM = awakeB := by
  have h0 : Lib.itoa 0 = [48] := itoa_digit 0 (by omega)
  have h1 : Lib.itoa 1 = [49] := itoa_digit 1 (by omega)
  have h2 : Lib.itoa 2 = [50] := itoa_digit 2 (by omega)
  have h3 : Lib.itoa 3 = [51] := itoa_digit 3 (by omega)
  have h4 : Lib.itoa 4 = [52] := itoa_digit 4 (by omega)
  have h5 : Lib.itoa 5 = [53] := itoa_digit 5 (by omega)
  have h6 : Lib.itoa 6 = [54] := itoa_digit 6 (by omega)
  simp [bytesM, segsM, frontS, lotS_, gdsS, lstS, txtS, rowS, awakeM, h0, h1, h2, h3, h4, h5, h6, elS]
  decide
theorem wiki_sum : checkV wikiB = 300286872 := by decide

set_option maxRecDepth 100000 in
set_option maxHeartbeats 800000 in
theorem awake7_any (w : World) (hL : MLib w) : Calls Tryd.prog 14 #[] w fun e w' => e = .returned (.bool true) ∧ Below w.heap.size w w' := by
  have HE := Lib.hid (fun v w h hL => msgEncode_any awakeM v w h hL)
  rw [if_pos awake_ok, awake_ok, awake_bytes] at HE
  have HC := Lib.hid (fun v w h => msgChecksum_any v wikiB w h)
  rw [wiki_sum] at HC
  have kc := fun (w : World) (C : Array Value) (n c : Nat) => Lib.run_convert_bytes_const (P := Tryd.prog) w 32 5 C n c Tryd.underlying32 Tryd.underlying5
  have HM := Lib.hid (fun w => (⟨⟨.slice none 0 0, rfl, ⟨rfl, .inl ⟨rfl, rfl⟩⟩⟩, Nat.zero_le _, Nat.zero_le _, Nat.zero_le _⟩ : MsgIn (Has_ w) w (msgV awakeM (.slice none 0 0)) awakeM))
  have HLw := Lib.hid hL
  clear hL
  go_enter Tryd.func14, Tryd.ntmps14
  go_wp2_with fail
  refine (HE.out _ _ (HM.out w) HLw.out).mono ?_
  rintro e w1 ⟨u, rfl, hu, hb⟩
  obtain ⟨uo, uc, hu2, _⟩ := hu.slice
  rw [show awakeB.length = 30 from rfl] at hu2
  subst hu2
  have hcv := hu.text
  have hnew : (w1.alloc (.cells #[.int .u8 87, .int .u8 105, .int .u8 107, .int .u8 105, .int .u8 112, .int .u8 101, .int .u8 100, .int .u8 105, .int .u8 97] 5 (9, 10))).heap[w1.heap.size]? = some (.cells #[.int .u8 87, .int .u8 105, .int .u8 107, .int .u8 105, .int .u8 112, .int .u8 101, .int .u8 100, .int .u8 105, .int .u8 97] 5 (9, 10)) := by
    show (w1.heap.push _)[w1.heap.size]? = some _
    simp
  have hbw : BytesIn (Has_ (w1.alloc (.cells #[.int .u8 87, .int .u8 105, .int .u8 107, .int .u8 105, .int .u8 112, .int .u8 101, .int .u8 100, .int .u8 105, .int .u8 97] 5 (9, 10)))) (w1.alloc (.cells #[.int .u8 87, .int .u8 105, .int .u8 107, .int .u8 105, .int .u8 112, .int .u8 101, .int .u8 100, .int .u8 105, .int .u8 97] 5 (9, 10))) (.slice (some ⟨w1.heap.size, 0, none⟩) 9 9) wikiB := cells_lit (cs := [.int .u8 87, .int .u8 105, .int .u8 107, .int .u8 105, .int .u8 112, .int .u8 101, .int .u8 100, .int .u8 105, .int .u8 97]) hnew 9 1 rfl (by unfold maxLen; omega)
  have HW := Lib.hid hbw
  have HB := Lib.hid (hb.alloc hb.size (.cells #[.int .u8 87, .int .u8 105, .int .u8 107, .int .u8 105, .int .u8 112, .int .u8 101, .int .u8 100, .int .u8 105, .int .u8 97] 5 (9, 10)))
  clear hu hb HE HM hnew hbw
  unfold awakeB at hcv
  go_wp2_with fail
  refine (HC.out _ _ HW.out).mono ?_
  rintro e w2 ⟨rfl, hb2⟩
  have HB2 := Lib.hid (HB.out.trans (hb2.mono HB.out.size))
  clear HC HW HB hb2
  go_wp2_with fail
  go_ret
  exact ⟨rfl, HB2.out⟩
end Go.Proofs.YtepkihoakagidaaDoor
namespace Go.Proofs.YtepkihoakagidaaDoor
open Go.RowKit

/-- A message in a box of its own. -/
structure BoxM (wx : World) (B : Nat) (m : Msg) (vl : Value) : Prop where
  box : wx.heap[B]? = some (.cells (msgCells m vl) 24 (0, 0))
  inn : MsgIn (Has_ wx) wx (msgV m vl) m
theorem BoxM.keep {wx w1 : World} {B : Nat} {m : Msg} {vl : Value} (h : BoxM wx B m vl) (hb : Below wx.heap.size wx w1) : BoxM w1 B m vl :=
  ⟨(hb.block _ (Array.getElem?_eq_some_iff.1 h.box).1).trans h.box, h.inn.later hb⟩
theorem BoxM.new {w : World} {m : Msg} {vl : Value} (h : MsgIn (Has_ w) w (msgV m vl) m) : BoxM (w.alloc (.cells (msgCells m vl) 24)) w.heap.size m vl := by
  refine ⟨?_, h.later ((Below.refl _ _).alloc (Nat.le_refl _) _)⟩
  show (w.heap.push _)[w.heap.size]? = some _
  simp
theorem BoxM.cells {wx : World} {B : Nat} {m : Msg} {vl : Value} (h : BoxM wx B m vl) : MsgAt wx B m vl := MsgAt.of h.box
theorem made_in {w : World} {M : Msg} {vl : Value} (h0 : msgE M = 0) (hn : NumsIn (Has_ w) w vl M.list) : MsgIn (Has_ w) w (msgV M vl) M := by
  obtain ⟨_, g2, g3, _, g5, _⟩ := msg_ok h0
  refine ⟨⟨vl, rfl, hn⟩, ?_, ?_, by unfold maxLen; omega⟩
  · unfold codeB at g2
    simp only [Bool.and_eq_true, decide_eq_true_eq] at g2
    unfold maxLen
    omega
  · rcases g3 with g3 | g3
    · rw [g3]; exact Nat.zero_le _
    · unfold ctryB at g3
      split at g3
      · rename_i e; rw [e]; show 2 ≤ maxLen; unfold maxLen; omega
      · cases g3
theorem msg_next {w0 w1 w2 : World} (h1 : Below w0.heap.size w0 w1) (h2 : Below w1.heap.size w1 w2) : Below w0.heap.size w0 w2 := h1.trans (h2.mono h1.size)
theorem segsM_len (m : Msg) : (segsM m).length ≤ 6 := by
  have := front_len m
  unfold segsM
  rw [List.length_append]
  show (frontS m).length + 1 ≤ 6
  omega
end Go.Proofs.YtepkihoakagidaaDoor
namespace Go.Proofs.YtepkihoakagidaaDoor
open Go.RowKit

/-- The message cut short. -/
def smallM (m : Msg) : Msg := { m with list := m.list.take 70, text := m.text.take 210 }
theorem NumsIn.firsts {p : Nat → Prop} {w : World} {ao : Option Addr} {len cap n : Nat} {b : List Int} (h : NumsIn p w (.slice ao len cap) b) (hn : n ≤ b.length) : NumsIn p w (.slice ao n cap) (b.take n) := by
  have hl : (b.take n).length = n := by rw [List.length_take]; omega
  obtain ⟨_, ⟨h1, h2⟩ | ⟨a, cap2, h2, h3, h4, h5, h6⟩⟩ := h
  · injection h1 with e1 e2 e3
    subst e1 e3
    refine ⟨by simp, .inl ⟨by rw [show n = 0 by omega], by rw [hl]; omega⟩⟩
  · injection h2 with e1 e2 e3
    subst e1 e3
    refine ⟨by simp, .inr ⟨a, cap, by rw [hl], by rw [hl]; omega, h4, fun h0 => h5 (by omega), fun j u hj => h6 j u ?_⟩⟩
    rw [List.getElem?_map, List.getElem?_take] at hj
    rw [List.getElem?_map]
    split at hj
    · exact hj
    · cases hj
theorem NumsIn.cap {p : Nat → Prop} {w : World} {ao : Option Addr} {len cap : Nat} {b : List Int} (h : NumsIn p w (.slice ao len cap) b) : b.length ≤ cap ∧ len = b.length := by
  obtain ⟨_, ⟨h1, h2⟩ | ⟨a, cap2, h2, h3, h4, h5, h6⟩⟩ := h
  · injection h1 with e1 e2 e3
    omega
  · injection h2 with e1 e2 e3
    omega
theorem first_text (a : List UInt8) (n : Nat) : (⟨a.toArray⟩ : ByteArray).extract 0 n = ⟨(a.take n).toArray⟩ := by
  apply ByteArray.ext
  rw [ByteArray.data_extract]
  simp
theorem small_fin {p : Nat → Prop} {w : World} {m : Msg} {vl : Value} {T : ByteArray} (hp : ∀ b, p b → Has_ w b) (o1 o2 : Obj) (hn : NumsIn p w vl (m.list.take 70)) (hT : T = ⟨(m.text.take 210).toArray⟩) (h1 : m.code.length ≤ maxLen) (h2 : m.ctry.length ≤ maxLen) (h3 : m.text.length ≤ maxLen) :
    MsgIn p ((w.alloc o1).alloc o2) (.agg #[.int .i64 m.kind, .int .i64 m.frm, .int .i64 m.to_, .int .i64 m.num, .int .i64 m.day, .int .i64 m.lot, .int .i64 m.other, .string ⟨m.code.toArray⟩, .string ⟨m.ctry.toArray⟩, .int .i64 m.qty, .int .i64 m.amt, vl, .string T]) (smallM m) ∧
    Below w.heap.size w ((w.alloc o1).alloc o2) := by
  have hb := ((Below.refl w.heap.size w).alloc (Nat.le_refl _) o1).alloc ((Below.refl w.heap.size w).alloc (Nat.le_refl _) o1).size o2
  subst hT
  exact ⟨⟨⟨vl, rfl, hn.keep fun b hb1 => ⟨hb1, (has_keep hb b (hp b hb1)).2⟩⟩, h1, h2, Nat.le_trans (by show (m.text.take 210).length ≤ _; rw [List.length_take]; exact Nat.min_le_right _ _) h3⟩, hb⟩

set_option maxRecDepth 100000 in
set_option maxHeartbeats 3200000 in
theorem small_any (p : Nat → Prop) (m : Msg) (v : Value) (w : World) (hp : ∀ b, p b → Has_ w b) (h : MsgIn p w v m) :
    Calls Tryd.prog 10 #[v] w fun e w' => ∃ u, e = .returned u ∧ MsgIn p w' u (smallM m) ∧ Below w.heap.size w w' := by
  obtain ⟨⟨vl, rfl, hn⟩, h1, h2, h3⟩ := h
  obtain ⟨lo, lc, rfl, _, _⟩ := hn.form
  have hcap := hn.cap.1
  obtain ⟨nl, hnl⟩ : ∃ k, m.list.length = k := ⟨_, rfl⟩
  rw [hnl] at hn hcap
  rw [hnl]
  unfold msgV strV
  obtain ⟨tl, htl⟩ : ∃ k, m.text.length = k := ⟨_, rfl⟩
  have HF := Lib.hid (fun (vl : Value) (T : ByteArray) o1 o2 hn hT => small_fin (w := w) (m := m) (vl := vl) (T := T) hp o1 o2 hn hT h1 h2 h3)
  have sz : m.text.length = tl := htl
  have HT := Lib.hid (first_text m.text 210)
  have HN := Lib.hid hn
  have Hnl := Lib.hid hnl
  have Htl := Lib.hid htl
  clear hn h1 h2 h3 hnl htl hp
  by_cases c1 : 70 < nl
  · have d1 : decide ((70 : Int) < (nl : Int)) = true := decide_eq_true (by omega)
    have d2 : (70 : Int) ≤ (lc : Int) := by omega
    have HV := Lib.hid (HN.out.firsts (n := 70) (by rw [Hnl.out]; omega))
    clear c1 HN Hnl
    by_cases c2 : 210 < tl
    · have d3 : decide ((210 : Int) < (tl : Int)) = true := decide_eq_true (by omega)
      have d4 : (210 : Int) ≤ (tl : Int) := by omega
      clear c2 Htl
      go_enter Tryd.func10, Tryd.ntmps10
      go_wp2_with fail
      simp [bodyPost, results, Tryd.results10, go_sem]
      exact HF.out _ _ _ _ HV.out HT.out
    · have d3 : decide ((210 : Int) < (tl : Int)) = false := decide_eq_false (by omega)
      have HT2 := Lib.hid (show (⟨m.text.toArray⟩ : ByteArray) = ⟨(m.text.take 210).toArray⟩ by rw [List.take_of_length_le (by rw [Htl.out]; omega)])
      clear c2 Htl
      go_enter Tryd.func10, Tryd.ntmps10
      go_wp2_with fail
      simp [bodyPost, results, Tryd.results10, go_sem]
      exact HF.out _ _ _ _ HV.out HT2.out
  · have d1 : decide ((70 : Int) < (nl : Int)) = false := decide_eq_false (by omega)
    have HV := Lib.hid (show NumsIn p w (.slice lo nl lc) (m.list.take 70) by rw [List.take_of_length_le (by rw [Hnl.out]; omega)]; exact HN.out)
    clear c1 HN Hnl
    by_cases c2 : 210 < tl
    · have d3 : decide ((210 : Int) < (tl : Int)) = true := decide_eq_true (by omega)
      have d4 : (210 : Int) ≤ (tl : Int) := by omega
      clear c2 Htl
      go_enter Tryd.func10, Tryd.ntmps10
      go_wp2_with fail
      simp [bodyPost, results, Tryd.results10, go_sem]
      exact HF.out _ _ _ _ HV.out HT.out
    · have d3 : decide ((210 : Int) < (tl : Int)) = false := decide_eq_false (by omega)
      have HT2 := Lib.hid (show (⟨m.text.toArray⟩ : ByteArray) = ⟨(m.text.take 210).toArray⟩ by rw [List.take_of_length_le (by rw [Htl.out]; omega)])
      clear c2 Htl
      go_enter Tryd.func10, Tryd.ntmps10
      go_wp2_with fail
      simp [bodyPost, results, Tryd.results10, go_sem]
      exact HF.out _ _ _ _ HV.out HT2.out
end Go.Proofs.YtepkihoakagidaaDoor
namespace Go.Proofs.YtepkihoakagidaaDoor
open Go.RowKit

theorem BoxM.free {wx : World} {B : Nat} {m : Msg} {vl : Value} (h : BoxM wx B m vl) (j : Nat) : wx.frozen? ⟨B, j, none⟩ = false := by
  simp [World.frozen?, h.box]
theorem msg_over {w : World} {B : Nat} {t : TypeId} (M0 : Msg) (v0 : Value) (M : Msg) (vl : Value) (h : w.heap[B]? = some (.cells (msgCells M0 v0) t (0, 0))) :
    ∃ W9, W9 = (((((((((((((w.setCell ⟨B, 0, none⟩ (.int .i64 M.kind)).setCell ⟨B, 1, none⟩ (.int .i64 M.frm)).setCell ⟨B, 2, none⟩ (.int .i64 M.to_)).setCell ⟨B, 3, none⟩ (.int .i64 M.num)).setCell ⟨B, 4, none⟩ (.int .i64 M.day)).setCell ⟨B, 5, none⟩ (.int .i64 M.lot)).setCell ⟨B, 6, none⟩ (.int .i64 M.other)).setCell ⟨B, 7, none⟩ (.string ⟨M.code.toArray⟩)).setCell ⟨B, 8, none⟩ (.string ⟨M.ctry.toArray⟩)).setCell ⟨B, 9, none⟩ (.int .i64 M.qty)).setCell ⟨B, 10, none⟩ (.int .i64 M.amt)).setCell ⟨B, 11, none⟩ vl).setCell ⟨B, 12, none⟩ (.string ⟨M.text.toArray⟩)) ∧ W9.heap[B]? = some (.cells (msgCells M vl) t (0, 0)) ∧ (∀ b, b ≠ B → W9.heap[b]? = w.heap[b]?) ∧ (∀ n, n ≤ B → Below n w W9) := by
  refine ⟨_, rfl, ?_, fun b hb => ?_, fun n hn => ?_⟩
  · have e := set_box (set_box (set_box (set_box (set_box (set_box (set_box (set_box (set_box (set_box (set_box (set_box (set_box h 0 (.int .i64 M.kind)) 1 (.int .i64 M.frm)) 2 (.int .i64 M.to_)) 3 (.int .i64 M.num)) 4 (.int .i64 M.day)) 5 (.int .i64 M.lot)) 6 (.int .i64 M.other)) 7 (.string ⟨M.code.toArray⟩)) 8 (.string ⟨M.ctry.toArray⟩)) 9 (.int .i64 M.qty)) 10 (.int .i64 M.amt)) 11 vl) 12 (.string ⟨M.text.toArray⟩)
    unfold msgCells at e
    simp only [List.setIfInBounds_toArray, List.set_cons_zero, List.set_cons_succ] at e
    exact e
  · have hk : ∀ (w : World) (j : Nat) (v : Value), (w.setCell ⟨B, j, none⟩ v).heap[b]? = w.heap[b]? := fun w j v => heap_setCell_other w ⟨B, j, none⟩ b v hb
    rw [hk, hk, hk, hk, hk, hk, hk, hk, hk, hk, hk, hk, hk]
  · exact ((((((((((((((Below.refl n w).setCell hn _).setCell hn _).setCell hn _).setCell hn _).setCell hn _).setCell hn _).setCell hn _).setCell hn _).setCell hn _).setCell hn _).setCell hn _).setCell hn _).setCell hn _)
end Go.Proofs.YtepkihoakagidaaDoor
namespace Go.Proofs.YtepkihoakagidaaDoor
open Go.RowKit

/-- A message in a box, and a list beside it. -/
structure ValAt (w wx : World) (B : Nat) (M : Msg) (vl v1 : Value) (n1 : Nat) (f1 : Nat → Int) : Prop where
  box : BoxM wx B M vl
  list : ListAt wx .i64 v1 n1 f1
  below : Below w.heap.size w wx
theorem val_all {w wx : World} {B : Nat} {M : Msg} {vl v1 : Value} {n1 : Nat} {f1 : Nat → Int} (h : ValAt w wx B M vl v1 n1 f1) :
    wx.cell? ⟨B, 0, none⟩ = some (.int .i64 M.kind) ∧ wx.cell? ⟨B, 1, none⟩ = some (.int .i64 M.frm) ∧ wx.cell? ⟨B, 2, none⟩ = some (.int .i64 M.to_) ∧ wx.cell? ⟨B, 3, none⟩ = some (.int .i64 M.num) ∧ wx.cell? ⟨B, 4, none⟩ = some (.int .i64 M.day) ∧ wx.cell? ⟨B, 5, none⟩ = some (.int .i64 M.lot) ∧ wx.cell? ⟨B, 6, none⟩ = some (.int .i64 M.other) ∧ wx.cell? ⟨B, 7, none⟩ = some (.string ⟨M.code.toArray⟩) ∧ wx.cell? ⟨B, 8, none⟩ = some (.string ⟨M.ctry.toArray⟩) ∧ wx.cell? ⟨B, 9, none⟩ = some (.int .i64 M.qty) ∧ wx.cell? ⟨B, 10, none⟩ = some (.int .i64 M.amt) ∧ wx.cell? ⟨B, 11, none⟩ = some (vl) ∧ wx.cell? ⟨B, 12, none⟩ = some (.string ⟨M.text.toArray⟩) ∧ ValAt w wx (B) M (vl) v1 n1 f1 := by
  have h1 := h.box
  exact ⟨h1.cells.c0, h1.cells.c1, h1.cells.c2, h1.cells.c3, h1.cells.c4, h1.cells.c5, h1.cells.c6, h1.cells.c7, h1.cells.c8, h1.cells.c9, h1.cells.c10, h1.cells.c11, h1.cells.c12, h⟩
theorem val_of {w wx : World} {B : Nat} {M : Msg} {vl v1 : Value} {n1 : Nat} {f1 : Nat → Int} (h : wx.cell? ⟨B, 0, none⟩ = some (.int .i64 M.kind) ∧ wx.cell? ⟨B, 1, none⟩ = some (.int .i64 M.frm) ∧ wx.cell? ⟨B, 2, none⟩ = some (.int .i64 M.to_) ∧ wx.cell? ⟨B, 3, none⟩ = some (.int .i64 M.num) ∧ wx.cell? ⟨B, 4, none⟩ = some (.int .i64 M.day) ∧ wx.cell? ⟨B, 5, none⟩ = some (.int .i64 M.lot) ∧ wx.cell? ⟨B, 6, none⟩ = some (.int .i64 M.other) ∧ wx.cell? ⟨B, 7, none⟩ = some (.string ⟨M.code.toArray⟩) ∧ wx.cell? ⟨B, 8, none⟩ = some (.string ⟨M.ctry.toArray⟩) ∧ wx.cell? ⟨B, 9, none⟩ = some (.int .i64 M.qty) ∧ wx.cell? ⟨B, 10, none⟩ = some (.int .i64 M.amt) ∧ wx.cell? ⟨B, 11, none⟩ = some (vl) ∧ wx.cell? ⟨B, 12, none⟩ = some (.string ⟨M.text.toArray⟩) ∧ ValAt w wx (B) M (vl) v1 n1 f1) : ValAt w wx B M vl v1 n1 f1 := h.2.2.2.2.2.2.2.2.2.2.2.2.2
theorem val_call {w wy wx : World} {B : Nat} {M : Msg} {vl v1 : Value} {n1 : Nat} {f1 : Nat → Int} (hb : Below wy.heap.size wy wx) (h : wy.cell? ⟨B, 0, none⟩ = some (.int .i64 M.kind) ∧ wy.cell? ⟨B, 1, none⟩ = some (.int .i64 M.frm) ∧ wy.cell? ⟨B, 2, none⟩ = some (.int .i64 M.to_) ∧ wy.cell? ⟨B, 3, none⟩ = some (.int .i64 M.num) ∧ wy.cell? ⟨B, 4, none⟩ = some (.int .i64 M.day) ∧ wy.cell? ⟨B, 5, none⟩ = some (.int .i64 M.lot) ∧ wy.cell? ⟨B, 6, none⟩ = some (.int .i64 M.other) ∧ wy.cell? ⟨B, 7, none⟩ = some (.string ⟨M.code.toArray⟩) ∧ wy.cell? ⟨B, 8, none⟩ = some (.string ⟨M.ctry.toArray⟩) ∧ wy.cell? ⟨B, 9, none⟩ = some (.int .i64 M.qty) ∧ wy.cell? ⟨B, 10, none⟩ = some (.int .i64 M.amt) ∧ wy.cell? ⟨B, 11, none⟩ = some (vl) ∧ wy.cell? ⟨B, 12, none⟩ = some (.string ⟨M.text.toArray⟩) ∧ ValAt w wy (B) M (vl) v1 n1 f1) :
    wx.cell? ⟨B, 0, none⟩ = some (.int .i64 M.kind) ∧ wx.cell? ⟨B, 1, none⟩ = some (.int .i64 M.frm) ∧ wx.cell? ⟨B, 2, none⟩ = some (.int .i64 M.to_) ∧ wx.cell? ⟨B, 3, none⟩ = some (.int .i64 M.num) ∧ wx.cell? ⟨B, 4, none⟩ = some (.int .i64 M.day) ∧ wx.cell? ⟨B, 5, none⟩ = some (.int .i64 M.lot) ∧ wx.cell? ⟨B, 6, none⟩ = some (.int .i64 M.other) ∧ wx.cell? ⟨B, 7, none⟩ = some (.string ⟨M.code.toArray⟩) ∧ wx.cell? ⟨B, 8, none⟩ = some (.string ⟨M.ctry.toArray⟩) ∧ wx.cell? ⟨B, 9, none⟩ = some (.int .i64 M.qty) ∧ wx.cell? ⟨B, 10, none⟩ = some (.int .i64 M.amt) ∧ wx.cell? ⟨B, 11, none⟩ = some (vl) ∧ wx.cell? ⟨B, 12, none⟩ = some (.string ⟨M.text.toArray⟩) ∧ ValAt w wx (B) M (vl) v1 n1 f1 := val_all ⟨(val_of h).box.keep hb, listAt_later (val_of h).list hb, msg_next (val_of h).below hb⟩
theorem val_drew {w wy : World} {B : Nat} {M : Msg} {vl v1 : Value} {n1 : Nat} {f1 : Nat → Int} (h : wy.cell? ⟨B, 0, none⟩ = some (.int .i64 M.kind) ∧ wy.cell? ⟨B, 1, none⟩ = some (.int .i64 M.frm) ∧ wy.cell? ⟨B, 2, none⟩ = some (.int .i64 M.to_) ∧ wy.cell? ⟨B, 3, none⟩ = some (.int .i64 M.num) ∧ wy.cell? ⟨B, 4, none⟩ = some (.int .i64 M.day) ∧ wy.cell? ⟨B, 5, none⟩ = some (.int .i64 M.lot) ∧ wy.cell? ⟨B, 6, none⟩ = some (.int .i64 M.other) ∧ wy.cell? ⟨B, 7, none⟩ = some (.string ⟨M.code.toArray⟩) ∧ wy.cell? ⟨B, 8, none⟩ = some (.string ⟨M.ctry.toArray⟩) ∧ wy.cell? ⟨B, 9, none⟩ = some (.int .i64 M.qty) ∧ wy.cell? ⟨B, 10, none⟩ = some (.int .i64 M.amt) ∧ wy.cell? ⟨B, 11, none⟩ = some (vl) ∧ wy.cell? ⟨B, 12, none⟩ = some (.string ⟨M.text.toArray⟩) ∧ ValAt w wy (B) M (vl) v1 n1 f1) :
    wy.drew.cell? ⟨B, 0, none⟩ = some (.int .i64 M.kind) ∧ wy.drew.cell? ⟨B, 1, none⟩ = some (.int .i64 M.frm) ∧ wy.drew.cell? ⟨B, 2, none⟩ = some (.int .i64 M.to_) ∧ wy.drew.cell? ⟨B, 3, none⟩ = some (.int .i64 M.num) ∧ wy.drew.cell? ⟨B, 4, none⟩ = some (.int .i64 M.day) ∧ wy.drew.cell? ⟨B, 5, none⟩ = some (.int .i64 M.lot) ∧ wy.drew.cell? ⟨B, 6, none⟩ = some (.int .i64 M.other) ∧ wy.drew.cell? ⟨B, 7, none⟩ = some (.string ⟨M.code.toArray⟩) ∧ wy.drew.cell? ⟨B, 8, none⟩ = some (.string ⟨M.ctry.toArray⟩) ∧ wy.drew.cell? ⟨B, 9, none⟩ = some (.int .i64 M.qty) ∧ wy.drew.cell? ⟨B, 10, none⟩ = some (.int .i64 M.amt) ∧ wy.drew.cell? ⟨B, 11, none⟩ = some (vl) ∧ wy.drew.cell? ⟨B, 12, none⟩ = some (.string ⟨M.text.toArray⟩) ∧ ValAt w wy.drew (B) M (vl) v1 n1 f1 := val_all ⟨(val_of h).box.keep (Below.refl _ _).drew, listAt_later (val_of h).list (Below.refl _ _).drew, msg_next (val_of h).below (Below.refl _ _).drew⟩
theorem validate_ok {m : Msg} {v : Value} {w : World} (h : MsgIn (Has_ w) w v m) (h0 : msgE m = 0) :
    Calls Tryd.prog 11 #[v] w fun e w' => e = .returned (.int .i64 0) ∧ Below w.heap.size w w' := by
  have := msgValidate_any m v w h
  rwa [h0] at this

set_option maxRecDepth 100000 in
set_option maxHeartbeats 3200000 in
theorem messageValidate_walk (m : Msg) (v : Value) (v1 : Value) (n1 : Nat) (f1 : Nat → Int) (w : World) (hL : MLib w) (h : MsgIn (Has_ w) w v m) (h1 : ListAt w .i64 v1 n1 f1) :
    Calls Tryd.prog 3 #[v, v1] w fun e w' => e = .returned (.bool true) ∧ Below w.heap.size w w' := by
  have HM := Lib.hid (fun w1 h => madeMessage_any v1 n1 f1 w1 h)
  have HS := Lib.hid (fun p m v w hp h => small_any p m v w hp h)
  have HV := Lib.hid (fun m v w h => msgValidate_any m v w h)
  have HR := Lib.hid (fun m v w h => refMessage_any m v w h)
  have HA := Lib.hid (fun w1 (hb : Below w.heap.size w w1) => awake7_any w1 (hL.keep hb))
  have H1 := Lib.hid h1
  have HH := Lib.hid (fun W (hb : Below w.heap.size w W) => (show MsgIn (fun b => b < w.heap.size) W v m from ⟨(by obtain ⟨vl, e, hn⟩ := h.val; exact ⟨vl, e, hn.keep fun b hb1 => ⟨hb1, hb.block b hb1⟩⟩), h.code, h.ctry, h.text⟩))
  obtain ⟨vl, rfl, hn⟩ := h.val
  have hI := h
  clear h1 hL
  obtain ⟨lo, lc, rfl, _, _⟩ := hn.form
  obtain ⟨nn, hnn⟩ : ∃ k, m.list.length = k := ⟨_, rfl⟩
  rw [hnn] at hI HH
  rw [hnn]
  have HB := Lib.hid (BoxM.new hI)
  have HL1 := Lib.hid ((Below.refl w.heap.size w).alloc (Nat.le_refl _) (.cells (msgCells m (.slice lo nn lc)) 24))
  clear hn h hI hnn
  have HH := Lib.hid (HH.out _ HL1.out)
  have hp : ∀ b, b < w.heap.size → Has_ (w.alloc (.cells (msgCells m (.slice lo nn lc)) 24)) b := fun b hb => Nat.lt_of_lt_of_le hb HL1.out.size
  replace hp := Lib.hid hp
  unfold msgCells strV at HB HL1 HH hp
  unfold msgV strV
  go_enter Tryd.func3, Tryd.ntmps3
  go_wp2_with fail
  generalize w.alloc (.cells #[.int .i64 m.kind, .int .i64 m.frm, .int .i64 m.to_, .int .i64 m.num, .int .i64 m.day, .int .i64 m.lot, .int .i64 m.other, .string ⟨m.code.toArray⟩, .string ⟨m.ctry.toArray⟩, .int .i64 m.qty, .int .i64 m.amt, .slice lo nn lc, .string ⟨m.text.toArray⟩] 24) = W1 at *
  obtain ⟨B, hB⟩ : ∃ B, w.heap.size = B := ⟨_, rfl⟩
  refine (HS.out _ m _ _ hp.out HH.out).mono ?_
  rintro e w2 ⟨u, rfl, hu, hb⟩
  obtain ⟨vs, rfl, hvs⟩ := hu.val
  have HB2 := Lib.hid (HB.out.keep hb)
  have HL2 := Lib.hid (msg_next HL1.out hb)
  have hlt : w.heap.size < w2.heap.size := (Array.getElem?_eq_some_iff.1 HB2.out.box).1
  have HI2 := Lib.hid hu
  have HV2 := Lib.hid hvs
  clear HB HL1 hu hvs hb HS HH hp
  generalize smallM m = M at *
  obtain ⟨so, sc, rfl, _, _⟩ := HV2.out.form
  obtain ⟨sn, hsn⟩ : ∃ k, M.list.length = k := ⟨_, rfl⟩
  rw [hsn] at HV2 HI2
  rw [hsn]
  clear hsn
  obtain ⟨c0, c1, c2, c3, c4, c5, c6, c7, c8, c9, c10, c11, c12⟩ := HB2.out.cells
  have g0 := HB2.out.free 0
  have g1 := HB2.out.free 1
  have g2 := HB2.out.free 2
  have g3 := HB2.out.free 3
  have g4 := HB2.out.free 4
  have g5 := HB2.out.free 5
  have g6 := HB2.out.free 6
  have g7 := HB2.out.free 7
  have g8 := HB2.out.free 8
  have g9 := HB2.out.free 9
  have g10 := HB2.out.free 10
  have g11 := HB2.out.free 11
  have g12 := HB2.out.free 12
  subst hB
  unfold msgV strV
  go_wp2_with fail
  obtain ⟨W9, hW9, hbox, hk, hbw⟩ := msg_over m (.slice lo nn lc) M (.slice so sn sc) HB2.out.box
  rw [← hW9]
  have hw9 := hbw w.heap.size (Nat.le_refl _)
  have hn9 : NumsIn (Has_ W9) W9 (.slice so sn sc) M.list := HV2.out.keep fun b hb => ⟨Nat.lt_of_lt_of_le (Nat.lt_of_lt_of_le hb (Nat.le_of_lt hlt)) hw9.size, hk b (Nat.ne_of_lt hb)⟩
  have hS0 := val_all (⟨⟨hbox, ⟨⟨_, rfl, hn9⟩, HI2.out.code, HI2.out.ctry, HI2.out.text⟩⟩, listAt_later H1.out (HL2.out.trans hw9), HL2.out.trans hw9⟩ : ValAt w W9 w.heap.size M (.slice so sn sc) v1 n1 f1)
  clear HB2 HL2 HI2 HV2 hW9 hbox hk hbw hw9 hn9 H1 c0 c1 c2 c3 c4 c5 c6 c7 c8 c9 c10 c11 c12 g0 g1 g2 g3 g4 g5 g6 g7 g8 g9 g10 g11 g12
  go_region_held3 (fun w' => w'.cell? ⟨w.heap.size, 0, none⟩ = some (.int .i64 M.kind) ∧ w'.cell? ⟨w.heap.size, 1, none⟩ = some (.int .i64 M.frm) ∧ w'.cell? ⟨w.heap.size, 2, none⟩ = some (.int .i64 M.to_) ∧ w'.cell? ⟨w.heap.size, 3, none⟩ = some (.int .i64 M.num) ∧ w'.cell? ⟨w.heap.size, 4, none⟩ = some (.int .i64 M.day) ∧ w'.cell? ⟨w.heap.size, 5, none⟩ = some (.int .i64 M.lot) ∧ w'.cell? ⟨w.heap.size, 6, none⟩ = some (.int .i64 M.other) ∧ w'.cell? ⟨w.heap.size, 7, none⟩ = some (.string ⟨M.code.toArray⟩) ∧ w'.cell? ⟨w.heap.size, 8, none⟩ = some (.string ⟨M.ctry.toArray⟩) ∧ w'.cell? ⟨w.heap.size, 9, none⟩ = some (.int .i64 M.qty) ∧ w'.cell? ⟨w.heap.size, 10, none⟩ = some (.int .i64 M.amt) ∧ w'.cell? ⟨w.heap.size, 11, none⟩ = some (.slice so sn sc) ∧ w'.cell? ⟨w.heap.size, 12, none⟩ = some (.string ⟨M.text.toArray⟩) ∧ ValAt w w' (w.heap.size) M (.slice so sn sc) v1 n1 f1)
    (first
      | assumption
      | exact val_drew (by assumption)
      | exact val_call (by assumption) (by assumption)
      | exact val_call (by assumption) (val_drew (by assumption)))
    (first
      | (go_at_call 12; refine (HR.out M _ _ (val_of (w := w) (vl := .slice so sn sc) (v1 := v1) (n1 := n1) (f1 := f1) (by assumption)).box.inn).mono ?_; rintro e w' ⟨rfl, hbk⟩)
      | (go_at_call 13; refine (HM.out _ (val_of (w := w) (B := w.heap.size) (M := M) (vl := .slice so sn sc) (by assumption)).list).mono ?_; rintro e w' ⟨M2, vl2, rfl, hok, hn2, hbk⟩; have hI2 := made_in hok hn2)
      | (go_at_call 11; first
          | (refine (validate_ok (by assumption) (by assumption)).mono ?_; rintro e w' ⟨rfl, hbk⟩)
          | (refine (HV.out M _ _ (val_of (w := w) (vl := .slice so sn sc) (v1 := v1) (n1 := n1) (f1 := f1) (by assumption)).box.inn).mono ?_; rintro e w' ⟨rfl, hbk⟩))
      | (go_at_call 14; refine (HA.out _ (val_of (w := w) (B := w.heap.size) (M := M) (vl := .slice so sn sc) (v1 := v1) (n1 := n1) (f1 := f1) (by assumption)).below).mono ?_; rintro e w' ⟨rfl, hbk⟩))
  all_goals
    rename_i hh
    have hL := (hh.2.2.2.2.2.2.2.2.2.2.2.2.2).below
    go_wp2_with fail
    go_ret
    exact ⟨rfl, hL⟩
end Go.Proofs.YtepkihoakagidaaDoor
namespace Go.Proofs.YtepkihoakagidaaDoor
open Go.RowKit

set_option maxRecDepth 100000 in
set_option maxHeartbeats 3200000 in
theorem messageSegments_walk (v : Value) (n : Nat) (f : Nat → Int) (w : World) (hL : MLib w) (h : ListAt w .i64 v n f) :
    Calls Tryd.prog 5 #[v] w fun e w' => e = .returned (.bool true) ∧ Below w.heap.size w w' := by
  have HM := Lib.hid (madeMessage_any v n f w h)
  have HS := Lib.hid (fun m v w1 h (hb : Below w.heap.size w w1) => msgSegments_any m v w1 h (hL.keep hb))
  have HE := Lib.hid (fun m v w1 h (hb : Below w.heap.size w w1) => msgEncode_any m v w1 h (hL.keep hb))
  have HR := Lib.hid (fun m v w h h0 => refSegs_any m v w h h0)
  have HC := Lib.hid (fun v L w h hn => segEncode_any v L w h hn)
  have HQ := Lib.hid (fun v1 v2 L M w h1 h2 => refSameB_any v1 v2 L M w h1 h2)
  have HA := Lib.hid (fun w1 (hb : Below w.heap.size w w1) => awake7_any w1 (hL.keep hb))
  clear h hL
  go_enter Tryd.func5, Tryd.ntmps5
  go_wp2_with fail
  refine HM.out.mono ?_
  rintro e w1 ⟨M, vl, rfl, hok, hn, hb1⟩
  have hI := made_in hok hn
  obtain ⟨lo, lc, rfl, _, _⟩ := hn.form
  obtain ⟨nn, hnn⟩ : ∃ k, M.list.length = k := ⟨_, rfl⟩
  rw [hnn] at hI
  have HB := Lib.hid (BoxM.new hI)
  have Hok := Lib.hid hok
  have HL1 := Lib.hid (hb1.alloc hb1.size (.cells (msgCells M (.slice lo nn lc)) 24))
  rw [hnn]
  clear hn hI hok hb1 hnn HM
  unfold msgCells strV at HB HL1
  unfold msgV strV
  go_wp2_with fail
  generalize w1.alloc (.cells #[.int .i64 M.kind, .int .i64 M.frm, .int .i64 M.to_, .int .i64 M.num, .int .i64 M.day, .int .i64 M.lot, .int .i64 M.other, .string ⟨M.code.toArray⟩, .string ⟨M.ctry.toArray⟩, .int .i64 M.qty, .int .i64 M.amt, .slice lo nn lc, .string ⟨M.text.toArray⟩] 24) = W1 at *
  generalize w1.heap.size = B1 at *
  have HS1 := HS.out M _ _ HB.out.inn HL1.out
  rw [Hok.out, if_pos rfl] at HS1
  refine HS1.mono ?_
  rintro e w2 ⟨u, rfl, hu, hb⟩
  obtain ⟨uo, uc, hue, _⟩ := hu.slice
  obtain ⟨ul, hul⟩ : ∃ k, (segsM M).length = k := ⟨_, rfl⟩
  rw [hul] at hue
  subst hue
  have HB2 := Lib.hid (HB.out.keep hb)
  have HL2 := Lib.hid (msg_next HL1.out hb)
  have HU2 := Lib.hid hu
  have Hul := Lib.hid hul
  clear HB HL1 hu hb HS1 HS hul
  obtain ⟨c0, c1, c2, c3, c4, c5, c6, c7, c8, c9, c10, c11, c12⟩ := HB2.out.cells
  go_wp2_with fail
  have HE1 := HE.out M _ _ HB2.out.inn HL2.out
  rw [Hok.out, if_pos rfl] at HE1
  refine HE1.mono ?_
  rintro e w3 ⟨b, rfl, hu, hb⟩
  obtain ⟨bo, bc, hbe, _⟩ := hu.slice
  obtain ⟨bl, hbl⟩ : ∃ k, (bytesM M).length = k := ⟨_, rfl⟩
  rw [hbl] at hbe
  subst hbe
  have HB3 := Lib.hid (HB2.out.keep hb)
  have HL3 := Lib.hid (msg_next HL2.out hb)
  have HU3 := Lib.hid (HU2.out.later hb)
  have HD3 := Lib.hid hu
  clear HB2 HL2 HU2 hu hb HE1 HE hbl c0 c1 c2 c3 c4 c5 c6 c7 c8 c9 c10 c11 c12
  go_wp2_with fail
  have HC1 := HC.out _ (segsM M) _ HU3.out (by have := segsM_len M; omega)
  rw [bytes_enc Hok.out] at HC1
  refine HC1.mono ?_
  rintro e w4 ⟨c, rfl, hu, hb⟩
  obtain ⟨co, cc, hce, _⟩ := hu.slice
  obtain ⟨cl, hcl⟩ : ∃ k, (bytesM M).length = k := ⟨_, rfl⟩
  rw [show ((bytesM M, (0 : Int)).1).length = (bytesM M).length from rfl, hcl] at hce
  subst hce
  have HB4 := Lib.hid (HB3.out.keep hb)
  have HL4 := Lib.hid (msg_next HL3.out hb)
  have HU4 := Lib.hid (HU3.out.later hb)
  have HD4 := Lib.hid (HD3.out.later hb)
  have HG4 := Lib.hid hu
  clear HB3 HL3 HU3 HD3 hu hb HC1 HC hcl
  obtain ⟨c0, c1, c2, c3, c4, c5, c6, c7, c8, c9, c10, c11, c12⟩ := HB4.out.cells
  dsimp only
  go_wp2_with fail
  refine (HR.out M _ _ HB4.out.inn Hok.out).mono ?_
  rintro e w5 ⟨r, rfl, hr, hb⟩
  have HL5 := Lib.hid (msg_next HL4.out hb)
  have HU5 := Lib.hid (HU4.out.later hb)
  have HD5 := Lib.hid (HD4.out.later hb)
  have HG5 := Lib.hid (HG4.out.later hb)
  have HR5 := Lib.hid hr
  clear HB4 HL4 HU4 HD4 HG4 hr hb HR c0 c1 c2 c3 c4 c5 c6 c7 c8 c9 c10 c11 c12
  go_wp2_with fail
  have HQ1 := HQ.out _ _ _ _ _ HU5.out HR5.out
  rw [(segsB_iff _ _).2 rfl] at HQ1
  refine HQ1.mono ?_
  rintro e w6 ⟨rfl, k, rfl⟩
  have hb : Below w5.heap.size w5 (w5.drewN k) := below_drewN (Below.refl _ _) k
  have HL6 := Lib.hid (msg_next HL5.out hb)
  have cv1 := (HD5.out.later hb).text
  have cv2 := (HG5.out.later hb).text
  clear HL5 HU5 HD5 HG5 HR5 hb HQ1 HQ
  generalize w5.drewN k = w6 at *

  go_wp2_with fail
  refine (HA.out _ HL6.out).mono ?_
  rintro e w7 ⟨rfl, hb⟩
  go_wp2_with fail
  go_ret
  exact ⟨rfl, msg_next HL6.out hb⟩
end Go.Proofs.YtepkihoakagidaaDoor
namespace Go.Proofs.YtepkihoakagidaaDoor
open Go.RowKit

/-- What Decode returns. -/
def decodeM (b : List UInt8) : Msg × Int := if (decodeF b).2.2 = 0 then parseF (decodeF b).1 else (noMsg, (decodeF b).2.2)
theorem decoded_ok {b : List UInt8} (h : (decodeF b).2.2 = 0) : ∀ s ∈ (decodeF b).1, segE s = 0 := by
  obtain ⟨L, n, e⟩ : ∃ L n, decodeF b = (L, n, 0) := ⟨(decodeF b).1, (decodeF b).2.1, by rw [← h]⟩
  obtain ⟨M, h1, h2, _⟩ := dec_spec b.length b 0 [] L n (Nat.le_refl _) e
  rw [e]
  show ∀ s ∈ L, segE s = 0
  rw [h1]
  exact h2
theorem parse_kind (L : List Seg) : (parseF L).1 = noMsg ∨ msgE (parseF L).1 = 0 := by
  unfold parseF
  split
  · rename_i h
    split
    · exact .inr h
    · split <;> exact .inl rfl
  · exact .inl rfl
theorem valid_in {w : World} {M : Msg} {vl : Value} {p : Nat → Prop} (h0 : M = noMsg ∨ msgE M = 0) (hn : NumsIn p w vl M.list) (hp : ∀ b, p b → Has_ w b) : MsgIn (Has_ w) w (msgV M vl) M := by
  have hn2 : NumsIn (Has_ w) w vl M.list := NumsIn.keep hn fun b hb => ⟨hp b hb, rfl⟩
  rcases h0 with rfl | h0
  · exact ⟨⟨vl, rfl, hn2⟩, Nat.zero_le _, Nat.zero_le _, Nat.zero_le _⟩
  · obtain ⟨_, g2, g3, _, g5, _⟩ := msg_ok h0
    refine ⟨⟨vl, rfl, hn2⟩, ?_, ?_, by unfold maxLen; omega⟩
    · unfold codeB at g2
      simp only [Bool.and_eq_true, decide_eq_true_eq] at g2
      unfold maxLen
      omega
    · rcases g3 with g3 | g3
      · rw [g3]; exact Nat.zero_le _
      · unfold ctryB at g3
        split at g3
        · rename_i e; rw [e]; show 2 ≤ maxLen; unfold maxLen; omega
        · cases g3
set_option maxRecDepth 100000 in
set_option maxHeartbeats 6400000 in
theorem lDecode_any (v : Value) (b : List UInt8) (w : World) (h : BytesIn (Has_ w) w v b) (hb : b.length ≤ 1000000000) (hL : MErr w) :
    Calls Tryd.prog 22 #[v] w fun e w' => ∃ vl, e = .returned (.tuple #[msgV (decodeM b).1 vl, .int .i64 (decodeM b).2]) ∧ NumsIn (NewB w w') w' vl (decodeM b).1.list ∧ Below w.heap.size w w' := by
  have hb0 : Below w.heap.size w (w.alloc (.cells noCells 24)) := (Below.refl _ _).alloc (Nat.le_refl _) _
  have hres : (w.alloc (.cells noCells 24)).heap[w.heap.size]? = some (.cells noCells 24 (0, 0)) := by
    show (w.heap.push _)[w.heap.size]? = some _
    simp
  have hsz : (w.alloc (.cells noCells 24)).heap.size = w.heap.size + 1 := by simp
  have HD := Lib.hid (segDecode_any v b _ (h.later hb0) hb)
  have HP := Lib.hid (fun v L w h hf hL => lParse_any v L w h hf hL)
  obtain ⟨ao, cap, rfl, _⟩ := h.slice
  have HLw := Lib.hid hL
  have HB0 := Lib.hid hb0
  have Hres := Lib.hid hres
  have Hsz := Lib.hid hsz
  obtain ⟨Mr, hMr⟩ : ∃ Mr, Mr = (decodeM b).1 := ⟨_, rfl⟩
  obtain ⟨er, her⟩ : ∃ er, er = (decodeM b).2 := ⟨_, rfl⟩
  rw [← hMr, ← her]
  have Hno := Lib.hid (show (decodeF b).2.2 ≠ 0 → Mr = noMsg ∧ er = (decodeF b).2.2 from fun h => by rw [hMr, her]; unfold decodeM; rw [if_neg h]; exact ⟨rfl, rfl⟩)
  have Hyes := Lib.hid (show (decodeF b).2.2 = 0 → Mr = (parseF (decodeF b).1).1 ∧ er = (parseF (decodeF b).1).2 from fun h => by rw [hMr, her]; unfold decodeM; rw [if_pos h]; exact ⟨rfl, rfl⟩)
  have Hok := Lib.hid (fun h => fit_segs (decoded_ok (b := b) h))
  generalize decodeF b = D at *
  obtain ⟨L, nb, E⟩ := D
  dsimp only at *
  clear h hL hb0 hres hsz hMr her
  unfold noCells at HD HB0 Hres Hsz
  go_enter Tryd.func22, Tryd.ntmps22
  go_wp2_with fail
  generalize w.alloc (.cells #[.int .i64 0, .int .i64 0, .int .i64 0, .int .i64 0, .int .i64 0, .int .i64 0, .int .i64 0, .string ⟨#[]⟩, .string ⟨#[]⟩, .int .i64 0, .int .i64 0, .slice none 0 0, .string ⟨#[]⟩] 24) = W0 at *
  refine HD.out.mono ?_
  rintro e w1 ⟨x, rfl, hx, hb1⟩
  have hR1 := (hb1.block _ (Array.getElem?_eq_some_iff.1 Hres.out).1).trans Hres.out
  have hB1 := HB0.out.trans (hb1.mono HB0.out.size)
  have hs1 : w.heap.size + 1 ≤ w1.heap.size := by have := Hsz.out; have := hb1.size; omega
  have HR1 := Lib.hid hR1
  have HB1 := Lib.hid hB1
  have HX := Lib.hid hx
  obtain ⟨xo, xc, rfl, _⟩ := hx.slice
  clear hR1 hB1 hb1 HD HB0 Hres Hsz hx
  by_cases h0 : E = 0
  · subst h0
    obtain ⟨hM, hF⟩ := Hyes.out rfl
    have HP1 := Lib.hid (HP.out _ L w1 HX.out (Hok.out rfl) (HLw.out.keep HB1.out))
    have z0 : ((0 : Int) != 0) = false := rfl
    rw [← hM, ← hF] at HP1
    clear hM hF
    generalize L.length = ll at *
    clear Hyes Hno Hok HP HLw HX
    go_wp2_with fail
    refine HP1.out.mono ?_
    rintro e w2 ⟨vl, rfl, hn, hb2⟩
    have hnh := hn.form
    obtain ⟨vo, vc, rfl, _⟩ := hnh
    obtain ⟨ln, hln⟩ : ∃ k, Mr.list.length = k := ⟨_, rfl⟩
    rw [hln] at hn ⊢
    have hR2 := (hb2.block _ (Array.getElem?_eq_some_iff.1 HR1.out).1).trans HR1.out
    obtain ⟨n0, n1, n2, n3, n4, n5, n6, n7, n8, n9, n10, n11, n12⟩ := NoAt.of hR2
    have fr := fun j => NoAt.free hR2 j
    obtain ⟨W9, hW9, hbox, hk, hbw⟩ := msg_stored Mr (.slice vo ln vc) hR2
    have HW9 := Lib.hid hW9
    have Hbox := Lib.hid hbox
    have H3 := Lib.hid (show NumsIn (NewB w W9) W9 (.slice vo ln vc) Mr.list from NumsIn.keep hn fun b hb => ⟨⟨by have := hb.1; omega, Nat.lt_of_lt_of_le hb.2 (hbw 0 (Nat.zero_le _)).size⟩, hk b (by have := hb.1; omega)⟩)
    have H2 := Lib.hid ((HB1.out.trans (hb2.mono HB1.out.size)).trans (hbw _ (Nat.le_refl _)))
    clear hW9 hbox hk hbw hR2 hn hb2 HR1 HB1 HP1 hln hs1
    unfold msgV strV
    go_wp2_with fail
    rw [← HW9.out]
    obtain ⟨d0, d1, d2, d3, d4, d5, d6, d7, d8, d9, d10, d11, d12⟩ := MsgAt.of Hbox.out
    have h3 := H3.out
    have h2 := H2.out
    clear n0 n1 n2 n3 n4 n5 n6 n7 n8 n9 n10 n11 n12 fr
    simp [bodyPost, results, Tryd.results22, go_sem, d0, d1, d2, d3, d4, d5, d6, d7, d8, d9, d10, d11, d12]
    first | exact ⟨h3, h2⟩ | exact ⟨_, rfl, h3, h2⟩
  · obtain ⟨rfl, he⟩ := Hno.out h0
    have he : er = E := he
    subst he
    have z0 : (er != 0) = true := by rw [bne_iff_ne]; exact h0
    generalize L.length = ll at *
    obtain ⟨n0, n1, n2, n3, n4, n5, n6, n7, n8, n9, n10, n11, n12⟩ := NoAt.of HR1.out
    have fr := fun j => NoAt.free HR1.out j
    obtain ⟨W9, hW9, hbox, hk, hbw⟩ := no_stored HR1.out
    have HW9 := Lib.hid hW9
    have Hbox := Lib.hid hbox
    have H2 := Lib.hid (HB1.out.trans (hbw _ (Nat.le_refl _)))
    clear hW9 hbox hk hbw HR1 HB1 Hyes Hno Hok HP HLw HX h0 hs1
    go_wp2_with fail
    rw [← HW9.out]
    obtain ⟨d0, d1, d2, d3, d4, d5, d6, d7, d8, d9, d10, d11, d12⟩ := NoAt.of Hbox.out
    have h2 := H2.out
    have h3 : NumsIn (NewB w W9) W9 (.slice none 0 0) noMsg.list := ⟨rfl, .inl ⟨rfl, rfl⟩⟩
    clear n0 n1 n2 n3 n4 n5 n6 n7 n8 n9 n10 n11 n12 fr
    unfold noMsg msgV strV
    simp [bodyPost, results, Tryd.results22, go_sem, d0, d1, d2, d3, d4, d5, d6, d7, d8, d9, d10, d11, d12]
    first | exact ⟨h3, h2⟩ | exact ⟨_, rfl, h3, h2⟩
end Go.Proofs.YtepkihoakagidaaDoor
namespace Go.Proofs.YtepkihoakagidaaDoor
open Go.RowKit
theorem msgParse_any (v : Value) (L : List Seg) (w : World) (h : SegsIn (Has_ w) w v L) (hf : fitL L) (hL : MErr w) :
    Calls Tryd.prog 21 #[v] w fun e w' => ∃ x, e = .returned (.tuple #[x, .int .i64 (parseF L).2]) ∧ MsgIn (Has_ w') w' x (parseF L).1 ∧ Below w.heap.size w w' :=
  (lParse_any v L w h hf hL).mono fun e w' h1 => by
    obtain ⟨vl, h2, h3, h4⟩ := h1
    exact ⟨_, h2, valid_in (parse_kind L) h3 (fun b hb => hb.2), h4⟩
theorem decode_kind (b : List UInt8) : (decodeM b).1 = noMsg ∨ msgE (decodeM b).1 = 0 := by
  unfold decodeM
  split
  · exact parse_kind _
  · exact .inl rfl
theorem msgDecode_any (v : Value) (b : List UInt8) (w : World) (h : BytesIn (Has_ w) w v b) (hb : b.length ≤ 1000000000) (hL : MErr w) :
    Calls Tryd.prog 22 #[v] w fun e w' => ∃ x, e = .returned (.tuple #[x, .int .i64 (decodeM b).2]) ∧ MsgIn (Has_ w') w' x (decodeM b).1 ∧ Below w.heap.size w w' :=
  (lDecode_any v b w h hb hL).mono fun e w' h1 => by
    obtain ⟨vl, h2, h3, h4⟩ := h1
    exact ⟨_, h2, valid_in (decode_kind b) h3 (fun b hb => hb.2), h4⟩
end Go.Proofs.YtepkihoakagidaaDoor
namespace Go.Proofs.YtepkihoakagidaaDoor
open Go.RowKit

theorem msgB_same (m : Msg) : msgB m m = true := (msgB_iff m m).2 rfl
theorem decode_bytes {M : Msg} (h : msgE M = 0) : decodeM (bytesM M) = (M, 0) := by
  unfold decodeM decodeF
  rw [bytes_dec h]
  show (if (0 : Int) = 0 then parseF (segsM M) else _) = _
  rw [if_pos rfl, parse_segs h]
theorem bytes_small {M : Msg} (h : msgE M = 0) : (bytesM M).length ≤ 1000000000 := by
  have h1 := flat_small (segs_ok h) (by have := segsM_len M; omega)
  show ((segsM M).flatMap encS).length ≤ _
  omega
/-- Two messages in boxes, as the last line of a law keeps them. -/
theorem BoxM.ext {wx : World} {B : Nat} {m : Msg} {vl : Value} (h : BoxM wx B m vl) : MsgIn (Has_ wx) wx (msgV m vl) m := h.inn

set_option maxRecDepth 100000 in
set_option maxHeartbeats 3200000 in
theorem messageRoundTrip_walk (v : Value) (n : Nat) (f : Nat → Int) (w : World) (hL : MErr w) (h : ListAt w .i64 v n f) :
    Calls Tryd.prog 6 #[v] w fun e w' => e = .returned (.bool true) ∧ Below w.heap.size w w' := by
  have HM := Lib.hid (madeMessage_any v n f w h)
  have HS := Lib.hid (fun m v w1 h (hb : Below w.heap.size w w1) => msgSegments_any m v w1 h (hL.lib.keep hb))
  have HE := Lib.hid (fun m v w1 h (hb : Below w.heap.size w w1) => msgEncode_any m v w1 h (hL.lib.keep hb))
  have HP := Lib.hid (fun v L w1 h hf (hb : Below w.heap.size w w1) => msgParse_any v L w1 h hf (hL.keep hb))
  have HD := Lib.hid (fun v b w1 h hn (hb : Below w.heap.size w w1) => msgDecode_any v b w1 h hn (hL.keep hb))
  have HQ := Lib.hid (fun a b v1 v2 w h1 h2 => refSameM_any a b v1 v2 w h1 h2)
  have HA := Lib.hid (fun w1 (hb : Below w.heap.size w w1) => awake7_any w1 (hL.lib.keep hb))
  clear h hL
  go_enter Tryd.func6, Tryd.ntmps6
  go_wp2_with fail
  refine HM.out.mono ?_
  rintro e w1 ⟨M, vl, rfl, hok, hn, hb1⟩
  have hI := made_in hok hn
  obtain ⟨lo, lc, rfl, _, _⟩ := hn.form
  obtain ⟨nn, hnn⟩ : ∃ k, M.list.length = k := ⟨_, rfl⟩
  rw [hnn] at hI
  have HB := Lib.hid (BoxM.new hI)
  have Hok := Lib.hid hok
  have HL1 := Lib.hid (hb1.alloc hb1.size (.cells (msgCells M (.slice lo nn lc)) 24))
  have Hnn := Lib.hid hnn
  rw [hnn]
  clear hn hI hok hb1 hnn HM
  unfold msgCells strV at HB HL1
  unfold msgV strV
  go_wp2_with fail
  generalize w1.alloc (.cells #[.int .i64 M.kind, .int .i64 M.frm, .int .i64 M.to_, .int .i64 M.num, .int .i64 M.day, .int .i64 M.lot, .int .i64 M.other, .string ⟨M.code.toArray⟩, .string ⟨M.ctry.toArray⟩, .int .i64 M.qty, .int .i64 M.amt, .slice lo nn lc, .string ⟨M.text.toArray⟩] 24) = W1 at *
  generalize w1.heap.size = B1 at *
  have HS1 := HS.out M _ _ HB.out.inn HL1.out
  rw [Hok.out, if_pos rfl] at HS1
  refine HS1.mono ?_
  rintro e w2 ⟨u, rfl, hu, hb⟩
  obtain ⟨uo, uc, hue, _⟩ := hu.slice
  obtain ⟨ul, hul⟩ : ∃ k, (segsM M).length = k := ⟨_, rfl⟩
  rw [hul] at hue
  subst hue
  have HB2 := Lib.hid (HB.out.keep hb)
  have HL2 := Lib.hid (msg_next HL1.out hb)
  have HU2 := Lib.hid hu
  clear HB HL1 hu hb HS1 HS hul
  go_wp2_with fail
  have HP1 := HP.out _ _ _ HU2.out (fit_segs (segs_ok Hok.out)) HL2.out
  rw [parse_segs Hok.out] at HP1
  refine HP1.mono ?_
  rintro e w3 ⟨x, rfl, hx, hb⟩
  obtain ⟨vx, rfl, hvx⟩ := hx.val
  obtain ⟨xo, xc, rfl, _, _⟩ := hvx.form
  dsimp only at hx ⊢
  rw [Hnn.out] at hx ⊢
  have HB3 := Lib.hid ((HB2.out.keep hb).keep ((Below.refl _ _).alloc (Nat.le_refl _) (.cells (msgCells M (.slice xo nn xc)) 24)))
  have HX3 := Lib.hid (BoxM.new hx)
  have HL3 := Lib.hid (msg_next HL2.out (hb.alloc hb.size (.cells (msgCells M (.slice xo nn xc)) 24)))
  clear HB2 HL2 HU2 hx hvx hb HP1 HP
  unfold msgCells strV at HB3 HX3 HL3
  obtain ⟨c0, c1, c2, c3, c4, c5, c6, c7, c8, c9, c10, c11, c12⟩ := HB3.out.cells
  unfold msgV strV
  go_wp2_with fail
  generalize w3.alloc (.cells #[.int .i64 M.kind, .int .i64 M.frm, .int .i64 M.to_, .int .i64 M.num, .int .i64 M.day, .int .i64 M.lot, .int .i64 M.other, .string ⟨M.code.toArray⟩, .string ⟨M.ctry.toArray⟩, .int .i64 M.qty, .int .i64 M.amt, .slice xo nn xc, .string ⟨M.text.toArray⟩] 24) = W3 at *
  generalize w3.heap.size = B3 at *
  have HE1 := HE.out M _ _ HB3.out.inn HL3.out
  rw [Hok.out, if_pos rfl] at HE1
  refine HE1.mono ?_
  rintro e w4 ⟨b, rfl, hu, hb⟩
  obtain ⟨bo, bc, hbe, _⟩ := hu.slice
  obtain ⟨bl, hbl⟩ : ∃ k, (bytesM M).length = k := ⟨_, rfl⟩
  rw [hbl] at hbe
  subst hbe
  have HB4 := Lib.hid (HB3.out.keep hb)
  have HX4 := Lib.hid (HX3.out.keep hb)
  have HL4 := Lib.hid (msg_next HL3.out hb)
  have HD4 := Lib.hid hu
  clear HB3 HX3 HL3 hu hb HE1 HE hbl c0 c1 c2 c3 c4 c5 c6 c7 c8 c9 c10 c11 c12
  go_wp2_with fail
  have HD1 := HD.out _ _ _ HD4.out (bytes_small Hok.out) HL4.out
  rw [decode_bytes Hok.out] at HD1
  refine HD1.mono ?_
  rintro e w5 ⟨y, rfl, hx, hb⟩
  obtain ⟨vy, rfl, hvx⟩ := hx.val
  obtain ⟨yo, yc, rfl, _, _⟩ := hvx.form
  dsimp only at hx ⊢
  rw [Hnn.out] at hx ⊢
  have HB5 := Lib.hid ((HB4.out.keep hb).keep ((Below.refl _ _).alloc (Nat.le_refl _) (.cells (msgCells M (.slice yo nn yc)) 24)))
  have HX5 := Lib.hid ((HX4.out.keep hb).keep ((Below.refl _ _).alloc (Nat.le_refl _) (.cells (msgCells M (.slice yo nn yc)) 24)))
  have HY5 := Lib.hid (BoxM.new hx)
  have HL5 := Lib.hid (msg_next HL4.out (hb.alloc hb.size (.cells (msgCells M (.slice yo nn yc)) 24)))
  clear HB4 HX4 HL4 HD4 hx hvx hb HD1 HD
  unfold msgCells strV at HB5 HX5 HY5 HL5
  obtain ⟨c0, c1, c2, c3, c4, c5, c6, c7, c8, c9, c10, c11, c12⟩ := HB5.out.cells
  obtain ⟨d0, d1, d2, d3, d4, d5, d6, d7, d8, d9, d10, d11, d12⟩ := HX5.out.cells
  unfold msgV strV
  go_wp2_with fail
  generalize w5.alloc (.cells #[.int .i64 M.kind, .int .i64 M.frm, .int .i64 M.to_, .int .i64 M.num, .int .i64 M.day, .int .i64 M.lot, .int .i64 M.other, .string ⟨M.code.toArray⟩, .string ⟨M.ctry.toArray⟩, .int .i64 M.qty, .int .i64 M.amt, .slice yo nn yc, .string ⟨M.text.toArray⟩] 24) = W5 at *
  generalize w5.heap.size = B5 at *
  have HQ1 := HQ.out M M _ _ _ HX5.out.inn HB5.out.inn
  rw [msgB_same] at HQ1
  refine HQ1.mono ?_
  rintro e w6 ⟨rfl, hb⟩
  have HB6 := Lib.hid (HB5.out.keep hb)
  have HY6 := Lib.hid (HY5.out.keep hb)
  have HL6 := Lib.hid (msg_next HL5.out hb)
  clear HB5 HX5 HY5 HL5 hb HQ1 c0 c1 c2 c3 c4 c5 c6 c7 c8 c9 c10 c11 c12 d0 d1 d2 d3 d4 d5 d6 d7 d8 d9 d10 d11 d12
  obtain ⟨c0, c1, c2, c3, c4, c5, c6, c7, c8, c9, c10, c11, c12⟩ := HB6.out.cells
  obtain ⟨d0, d1, d2, d3, d4, d5, d6, d7, d8, d9, d10, d11, d12⟩ := HY6.out.cells
  go_wp2_with fail
  have HQ1 := HQ.out M M _ _ _ HY6.out.inn HB6.out.inn
  rw [msgB_same] at HQ1
  refine HQ1.mono ?_
  rintro e w7 ⟨rfl, hb⟩
  have HL7 := Lib.hid (msg_next HL6.out hb)
  clear HB6 HY6 HL6 hb HQ1 HQ c0 c1 c2 c3 c4 c5 c6 c7 c8 c9 c10 c11 c12 d0 d1 d2 d3 d4 d5 d6 d7 d8 d9 d10 d11 d12
  go_wp2_with fail
  refine (HA.out _ HL7.out).mono ?_
  rintro e w8 ⟨rfl, hb⟩
  go_wp2_with fail
  go_ret
  exact ⟨rfl, msg_next HL7.out hb⟩
end Go.Proofs.YtepkihoakagidaaDoor
namespace Go.Proofs.YtepkihoakagidaaDoor
open Go.RowKit

theorem inj_bytes {M N : Msg} (hm : msgE M = 0) (hn : msgE N = 0) : (bytesM M == bytesM N) = msgB M N := by
  by_cases h : M = N
  · rw [h, msgB_same, beq_iff_eq]
  · have h1 : msgB M N = false := by rw [← Bool.not_eq_true, msgB_iff]; exact h
    rw [h1, beq_eq_false_iff_ne]
    exact fun e => h (bytes_inj hm hn e)

/-- Two messages, each in a box of its own, and two rows of bytes. -/
structure InjAt (w wx : World) (B1 B2 : Nat) (M N : Msg) (vl vm u1 u2 : Value) (bm bn : List UInt8) : Prop where
  one : BoxM wx B1 M vl
  two : BoxM wx B2 N vm
  t1 : BytesIn (Has_ wx) wx u1 bm
  t2 : BytesIn (Has_ wx) wx u2 bn
  below : Below w.heap.size w wx
theorem InjAt.keep {w wx w1 : World} {B1 B2 : Nat} {M N : Msg} {vl vm u1 u2 : Value} {bm bn : List UInt8} (h : InjAt w wx B1 B2 M N vl vm u1 u2 bm bn) (hb : Below wx.heap.size wx w1) : InjAt w w1 B1 B2 M N vl vm u1 u2 bm bn :=
  ⟨h.one.keep hb, h.two.keep hb, h.t1.later hb, h.t2.later hb, msg_next h.below hb⟩
theorem inj_all {w wx : World} {B1 B2 : Nat} {M N : Msg} {vl vm u1 u2 : Value} {bm bn : List UInt8} (h : InjAt w wx B1 B2 M N vl vm u1 u2 bm bn) :
    wx.cell? ⟨B1, 0, none⟩ = some (.int .i64 M.kind) ∧ wx.cell? ⟨B1, 1, none⟩ = some (.int .i64 M.frm) ∧ wx.cell? ⟨B1, 2, none⟩ = some (.int .i64 M.to_) ∧ wx.cell? ⟨B1, 3, none⟩ = some (.int .i64 M.num) ∧ wx.cell? ⟨B1, 4, none⟩ = some (.int .i64 M.day) ∧ wx.cell? ⟨B1, 5, none⟩ = some (.int .i64 M.lot) ∧ wx.cell? ⟨B1, 6, none⟩ = some (.int .i64 M.other) ∧ wx.cell? ⟨B1, 7, none⟩ = some (.string ⟨M.code.toArray⟩) ∧ wx.cell? ⟨B1, 8, none⟩ = some (.string ⟨M.ctry.toArray⟩) ∧ wx.cell? ⟨B1, 9, none⟩ = some (.int .i64 M.qty) ∧ wx.cell? ⟨B1, 10, none⟩ = some (.int .i64 M.amt) ∧ wx.cell? ⟨B1, 11, none⟩ = some (vl) ∧ wx.cell? ⟨B1, 12, none⟩ = some (.string ⟨M.text.toArray⟩) ∧ wx.cell? ⟨B2, 0, none⟩ = some (.int .i64 N.kind) ∧ wx.cell? ⟨B2, 1, none⟩ = some (.int .i64 N.frm) ∧ wx.cell? ⟨B2, 2, none⟩ = some (.int .i64 N.to_) ∧ wx.cell? ⟨B2, 3, none⟩ = some (.int .i64 N.num) ∧ wx.cell? ⟨B2, 4, none⟩ = some (.int .i64 N.day) ∧ wx.cell? ⟨B2, 5, none⟩ = some (.int .i64 N.lot) ∧ wx.cell? ⟨B2, 6, none⟩ = some (.int .i64 N.other) ∧ wx.cell? ⟨B2, 7, none⟩ = some (.string ⟨N.code.toArray⟩) ∧ wx.cell? ⟨B2, 8, none⟩ = some (.string ⟨N.ctry.toArray⟩) ∧ wx.cell? ⟨B2, 9, none⟩ = some (.int .i64 N.qty) ∧ wx.cell? ⟨B2, 10, none⟩ = some (.int .i64 N.amt) ∧ wx.cell? ⟨B2, 11, none⟩ = some (vm) ∧ wx.cell? ⟨B2, 12, none⟩ = some (.string ⟨N.text.toArray⟩) ∧ (convert 32 9 (u1)).run Tryd.prog wx = .ok (.string ⟨bm.toArray⟩) wx ∧ (convert 32 9 (u2)).run Tryd.prog wx = .ok (.string ⟨bn.toArray⟩) wx ∧ InjAt w wx B1 B2 M N (vl) (vm) (u1) (u2) bm bn := by
  have h1 := h.one
  have h2 := h.two
  have g1 := h.t1
  have g2 := h.t2
  exact ⟨h1.cells.c0, h1.cells.c1, h1.cells.c2, h1.cells.c3, h1.cells.c4, h1.cells.c5, h1.cells.c6, h1.cells.c7, h1.cells.c8, h1.cells.c9, h1.cells.c10, h1.cells.c11, h1.cells.c12, h2.cells.c0, h2.cells.c1, h2.cells.c2, h2.cells.c3, h2.cells.c4, h2.cells.c5, h2.cells.c6, h2.cells.c7, h2.cells.c8, h2.cells.c9, h2.cells.c10, h2.cells.c11, h2.cells.c12, g1.text, g2.text, h⟩
theorem inj_of {w wx : World} {B1 B2 : Nat} {M N : Msg} {vl vm u1 u2 : Value} {bm bn : List UInt8} (h : wx.cell? ⟨B1, 0, none⟩ = some (.int .i64 M.kind) ∧ wx.cell? ⟨B1, 1, none⟩ = some (.int .i64 M.frm) ∧ wx.cell? ⟨B1, 2, none⟩ = some (.int .i64 M.to_) ∧ wx.cell? ⟨B1, 3, none⟩ = some (.int .i64 M.num) ∧ wx.cell? ⟨B1, 4, none⟩ = some (.int .i64 M.day) ∧ wx.cell? ⟨B1, 5, none⟩ = some (.int .i64 M.lot) ∧ wx.cell? ⟨B1, 6, none⟩ = some (.int .i64 M.other) ∧ wx.cell? ⟨B1, 7, none⟩ = some (.string ⟨M.code.toArray⟩) ∧ wx.cell? ⟨B1, 8, none⟩ = some (.string ⟨M.ctry.toArray⟩) ∧ wx.cell? ⟨B1, 9, none⟩ = some (.int .i64 M.qty) ∧ wx.cell? ⟨B1, 10, none⟩ = some (.int .i64 M.amt) ∧ wx.cell? ⟨B1, 11, none⟩ = some (vl) ∧ wx.cell? ⟨B1, 12, none⟩ = some (.string ⟨M.text.toArray⟩) ∧ wx.cell? ⟨B2, 0, none⟩ = some (.int .i64 N.kind) ∧ wx.cell? ⟨B2, 1, none⟩ = some (.int .i64 N.frm) ∧ wx.cell? ⟨B2, 2, none⟩ = some (.int .i64 N.to_) ∧ wx.cell? ⟨B2, 3, none⟩ = some (.int .i64 N.num) ∧ wx.cell? ⟨B2, 4, none⟩ = some (.int .i64 N.day) ∧ wx.cell? ⟨B2, 5, none⟩ = some (.int .i64 N.lot) ∧ wx.cell? ⟨B2, 6, none⟩ = some (.int .i64 N.other) ∧ wx.cell? ⟨B2, 7, none⟩ = some (.string ⟨N.code.toArray⟩) ∧ wx.cell? ⟨B2, 8, none⟩ = some (.string ⟨N.ctry.toArray⟩) ∧ wx.cell? ⟨B2, 9, none⟩ = some (.int .i64 N.qty) ∧ wx.cell? ⟨B2, 10, none⟩ = some (.int .i64 N.amt) ∧ wx.cell? ⟨B2, 11, none⟩ = some (vm) ∧ wx.cell? ⟨B2, 12, none⟩ = some (.string ⟨N.text.toArray⟩) ∧ (convert 32 9 (u1)).run Tryd.prog wx = .ok (.string ⟨bm.toArray⟩) wx ∧ (convert 32 9 (u2)).run Tryd.prog wx = .ok (.string ⟨bn.toArray⟩) wx ∧ InjAt w wx B1 B2 M N (vl) (vm) (u1) (u2) bm bn) : InjAt w wx B1 B2 M N vl vm u1 u2 bm bn := h.2.2.2.2.2.2.2.2.2.2.2.2.2.2.2.2.2.2.2.2.2.2.2.2.2.2.2.2
theorem inj_call {w wy wx : World} {B1 B2 : Nat} {M N : Msg} {vl vm u1 u2 : Value} {bm bn : List UInt8} (hb : Below wy.heap.size wy wx) (h : wy.cell? ⟨B1, 0, none⟩ = some (.int .i64 M.kind) ∧ wy.cell? ⟨B1, 1, none⟩ = some (.int .i64 M.frm) ∧ wy.cell? ⟨B1, 2, none⟩ = some (.int .i64 M.to_) ∧ wy.cell? ⟨B1, 3, none⟩ = some (.int .i64 M.num) ∧ wy.cell? ⟨B1, 4, none⟩ = some (.int .i64 M.day) ∧ wy.cell? ⟨B1, 5, none⟩ = some (.int .i64 M.lot) ∧ wy.cell? ⟨B1, 6, none⟩ = some (.int .i64 M.other) ∧ wy.cell? ⟨B1, 7, none⟩ = some (.string ⟨M.code.toArray⟩) ∧ wy.cell? ⟨B1, 8, none⟩ = some (.string ⟨M.ctry.toArray⟩) ∧ wy.cell? ⟨B1, 9, none⟩ = some (.int .i64 M.qty) ∧ wy.cell? ⟨B1, 10, none⟩ = some (.int .i64 M.amt) ∧ wy.cell? ⟨B1, 11, none⟩ = some (vl) ∧ wy.cell? ⟨B1, 12, none⟩ = some (.string ⟨M.text.toArray⟩) ∧ wy.cell? ⟨B2, 0, none⟩ = some (.int .i64 N.kind) ∧ wy.cell? ⟨B2, 1, none⟩ = some (.int .i64 N.frm) ∧ wy.cell? ⟨B2, 2, none⟩ = some (.int .i64 N.to_) ∧ wy.cell? ⟨B2, 3, none⟩ = some (.int .i64 N.num) ∧ wy.cell? ⟨B2, 4, none⟩ = some (.int .i64 N.day) ∧ wy.cell? ⟨B2, 5, none⟩ = some (.int .i64 N.lot) ∧ wy.cell? ⟨B2, 6, none⟩ = some (.int .i64 N.other) ∧ wy.cell? ⟨B2, 7, none⟩ = some (.string ⟨N.code.toArray⟩) ∧ wy.cell? ⟨B2, 8, none⟩ = some (.string ⟨N.ctry.toArray⟩) ∧ wy.cell? ⟨B2, 9, none⟩ = some (.int .i64 N.qty) ∧ wy.cell? ⟨B2, 10, none⟩ = some (.int .i64 N.amt) ∧ wy.cell? ⟨B2, 11, none⟩ = some (vm) ∧ wy.cell? ⟨B2, 12, none⟩ = some (.string ⟨N.text.toArray⟩) ∧ (convert 32 9 (u1)).run Tryd.prog wy = .ok (.string ⟨bm.toArray⟩) wy ∧ (convert 32 9 (u2)).run Tryd.prog wy = .ok (.string ⟨bn.toArray⟩) wy ∧ InjAt w wy B1 B2 M N (vl) (vm) (u1) (u2) bm bn) :
    wx.cell? ⟨B1, 0, none⟩ = some (.int .i64 M.kind) ∧ wx.cell? ⟨B1, 1, none⟩ = some (.int .i64 M.frm) ∧ wx.cell? ⟨B1, 2, none⟩ = some (.int .i64 M.to_) ∧ wx.cell? ⟨B1, 3, none⟩ = some (.int .i64 M.num) ∧ wx.cell? ⟨B1, 4, none⟩ = some (.int .i64 M.day) ∧ wx.cell? ⟨B1, 5, none⟩ = some (.int .i64 M.lot) ∧ wx.cell? ⟨B1, 6, none⟩ = some (.int .i64 M.other) ∧ wx.cell? ⟨B1, 7, none⟩ = some (.string ⟨M.code.toArray⟩) ∧ wx.cell? ⟨B1, 8, none⟩ = some (.string ⟨M.ctry.toArray⟩) ∧ wx.cell? ⟨B1, 9, none⟩ = some (.int .i64 M.qty) ∧ wx.cell? ⟨B1, 10, none⟩ = some (.int .i64 M.amt) ∧ wx.cell? ⟨B1, 11, none⟩ = some (vl) ∧ wx.cell? ⟨B1, 12, none⟩ = some (.string ⟨M.text.toArray⟩) ∧ wx.cell? ⟨B2, 0, none⟩ = some (.int .i64 N.kind) ∧ wx.cell? ⟨B2, 1, none⟩ = some (.int .i64 N.frm) ∧ wx.cell? ⟨B2, 2, none⟩ = some (.int .i64 N.to_) ∧ wx.cell? ⟨B2, 3, none⟩ = some (.int .i64 N.num) ∧ wx.cell? ⟨B2, 4, none⟩ = some (.int .i64 N.day) ∧ wx.cell? ⟨B2, 5, none⟩ = some (.int .i64 N.lot) ∧ wx.cell? ⟨B2, 6, none⟩ = some (.int .i64 N.other) ∧ wx.cell? ⟨B2, 7, none⟩ = some (.string ⟨N.code.toArray⟩) ∧ wx.cell? ⟨B2, 8, none⟩ = some (.string ⟨N.ctry.toArray⟩) ∧ wx.cell? ⟨B2, 9, none⟩ = some (.int .i64 N.qty) ∧ wx.cell? ⟨B2, 10, none⟩ = some (.int .i64 N.amt) ∧ wx.cell? ⟨B2, 11, none⟩ = some (vm) ∧ wx.cell? ⟨B2, 12, none⟩ = some (.string ⟨N.text.toArray⟩) ∧ (convert 32 9 (u1)).run Tryd.prog wx = .ok (.string ⟨bm.toArray⟩) wx ∧ (convert 32 9 (u2)).run Tryd.prog wx = .ok (.string ⟨bn.toArray⟩) wx ∧ InjAt w wx B1 B2 M N (vl) (vm) (u1) (u2) bm bn := inj_all ((inj_of h).keep hb)
theorem inj_drew {w wy : World} {B1 B2 : Nat} {M N : Msg} {vl vm u1 u2 : Value} {bm bn : List UInt8} (h : wy.cell? ⟨B1, 0, none⟩ = some (.int .i64 M.kind) ∧ wy.cell? ⟨B1, 1, none⟩ = some (.int .i64 M.frm) ∧ wy.cell? ⟨B1, 2, none⟩ = some (.int .i64 M.to_) ∧ wy.cell? ⟨B1, 3, none⟩ = some (.int .i64 M.num) ∧ wy.cell? ⟨B1, 4, none⟩ = some (.int .i64 M.day) ∧ wy.cell? ⟨B1, 5, none⟩ = some (.int .i64 M.lot) ∧ wy.cell? ⟨B1, 6, none⟩ = some (.int .i64 M.other) ∧ wy.cell? ⟨B1, 7, none⟩ = some (.string ⟨M.code.toArray⟩) ∧ wy.cell? ⟨B1, 8, none⟩ = some (.string ⟨M.ctry.toArray⟩) ∧ wy.cell? ⟨B1, 9, none⟩ = some (.int .i64 M.qty) ∧ wy.cell? ⟨B1, 10, none⟩ = some (.int .i64 M.amt) ∧ wy.cell? ⟨B1, 11, none⟩ = some (vl) ∧ wy.cell? ⟨B1, 12, none⟩ = some (.string ⟨M.text.toArray⟩) ∧ wy.cell? ⟨B2, 0, none⟩ = some (.int .i64 N.kind) ∧ wy.cell? ⟨B2, 1, none⟩ = some (.int .i64 N.frm) ∧ wy.cell? ⟨B2, 2, none⟩ = some (.int .i64 N.to_) ∧ wy.cell? ⟨B2, 3, none⟩ = some (.int .i64 N.num) ∧ wy.cell? ⟨B2, 4, none⟩ = some (.int .i64 N.day) ∧ wy.cell? ⟨B2, 5, none⟩ = some (.int .i64 N.lot) ∧ wy.cell? ⟨B2, 6, none⟩ = some (.int .i64 N.other) ∧ wy.cell? ⟨B2, 7, none⟩ = some (.string ⟨N.code.toArray⟩) ∧ wy.cell? ⟨B2, 8, none⟩ = some (.string ⟨N.ctry.toArray⟩) ∧ wy.cell? ⟨B2, 9, none⟩ = some (.int .i64 N.qty) ∧ wy.cell? ⟨B2, 10, none⟩ = some (.int .i64 N.amt) ∧ wy.cell? ⟨B2, 11, none⟩ = some (vm) ∧ wy.cell? ⟨B2, 12, none⟩ = some (.string ⟨N.text.toArray⟩) ∧ (convert 32 9 (u1)).run Tryd.prog wy = .ok (.string ⟨bm.toArray⟩) wy ∧ (convert 32 9 (u2)).run Tryd.prog wy = .ok (.string ⟨bn.toArray⟩) wy ∧ InjAt w wy B1 B2 M N (vl) (vm) (u1) (u2) bm bn) :
    wy.drew.cell? ⟨B1, 0, none⟩ = some (.int .i64 M.kind) ∧ wy.drew.cell? ⟨B1, 1, none⟩ = some (.int .i64 M.frm) ∧ wy.drew.cell? ⟨B1, 2, none⟩ = some (.int .i64 M.to_) ∧ wy.drew.cell? ⟨B1, 3, none⟩ = some (.int .i64 M.num) ∧ wy.drew.cell? ⟨B1, 4, none⟩ = some (.int .i64 M.day) ∧ wy.drew.cell? ⟨B1, 5, none⟩ = some (.int .i64 M.lot) ∧ wy.drew.cell? ⟨B1, 6, none⟩ = some (.int .i64 M.other) ∧ wy.drew.cell? ⟨B1, 7, none⟩ = some (.string ⟨M.code.toArray⟩) ∧ wy.drew.cell? ⟨B1, 8, none⟩ = some (.string ⟨M.ctry.toArray⟩) ∧ wy.drew.cell? ⟨B1, 9, none⟩ = some (.int .i64 M.qty) ∧ wy.drew.cell? ⟨B1, 10, none⟩ = some (.int .i64 M.amt) ∧ wy.drew.cell? ⟨B1, 11, none⟩ = some (vl) ∧ wy.drew.cell? ⟨B1, 12, none⟩ = some (.string ⟨M.text.toArray⟩) ∧ wy.drew.cell? ⟨B2, 0, none⟩ = some (.int .i64 N.kind) ∧ wy.drew.cell? ⟨B2, 1, none⟩ = some (.int .i64 N.frm) ∧ wy.drew.cell? ⟨B2, 2, none⟩ = some (.int .i64 N.to_) ∧ wy.drew.cell? ⟨B2, 3, none⟩ = some (.int .i64 N.num) ∧ wy.drew.cell? ⟨B2, 4, none⟩ = some (.int .i64 N.day) ∧ wy.drew.cell? ⟨B2, 5, none⟩ = some (.int .i64 N.lot) ∧ wy.drew.cell? ⟨B2, 6, none⟩ = some (.int .i64 N.other) ∧ wy.drew.cell? ⟨B2, 7, none⟩ = some (.string ⟨N.code.toArray⟩) ∧ wy.drew.cell? ⟨B2, 8, none⟩ = some (.string ⟨N.ctry.toArray⟩) ∧ wy.drew.cell? ⟨B2, 9, none⟩ = some (.int .i64 N.qty) ∧ wy.drew.cell? ⟨B2, 10, none⟩ = some (.int .i64 N.amt) ∧ wy.drew.cell? ⟨B2, 11, none⟩ = some (vm) ∧ wy.drew.cell? ⟨B2, 12, none⟩ = some (.string ⟨N.text.toArray⟩) ∧ (convert 32 9 (u1)).run Tryd.prog wy.drew = .ok (.string ⟨bm.toArray⟩) wy.drew ∧ (convert 32 9 (u2)).run Tryd.prog wy.drew = .ok (.string ⟨bn.toArray⟩) wy.drew ∧ InjAt w wy.drew B1 B2 M N (vl) (vm) (u1) (u2) bm bn := inj_all ((inj_of h).keep (Below.refl _ _).drew)
theorem two_boxes {w : World} {m n : Msg} {vl vm : Value} (h1 : MsgIn (Has_ w) w (msgV m vl) m) (h2 : MsgIn (Has_ w) w (msgV n vm) n) :
    BoxM ((w.alloc (.cells (msgCells m vl) 24)).alloc (.cells (msgCells n vm) 24)) w.heap.size m vl ∧
    BoxM ((w.alloc (.cells (msgCells m vl) 24)).alloc (.cells (msgCells n vm) 24)) (w.heap.size + 1) n vm := by
  have e : (w.alloc (.cells (msgCells m vl) 24)).heap.size = w.heap.size + 1 := Array.size_push ..
  refine ⟨(BoxM.new h1).keep ((Below.refl _ _).alloc (Nat.le_refl _) _), ?_⟩
  rw [← e]
  exact BoxM.new (h2.later ((Below.refl _ _).alloc (Nat.le_refl _) _))

set_option maxRecDepth 100000 in
set_option maxHeartbeats 3200000 in
theorem messageInjective_walk (v1 v2 : Value) (n1 n2 : Nat) (f1 f2 : Nat → Int) (w : World) (hL : MLib w) (h1 : ListAt w .i64 v1 n1 f1) (h2 : ListAt w .i64 v2 n2 f2) :
    Calls Tryd.prog 8 #[v1, v2] w fun e w' => e = .returned (.bool true) ∧ Below w.heap.size w w' := by
  have HM := Lib.hid (madeMessage_any v1 n1 f1 w h1)
  have HN := Lib.hid (fun w1 h => madeMessage_any v2 n2 f2 w1 h)
  have HE := Lib.hid (fun m v w1 h (hb : Below w.heap.size w w1) => msgEncode_any m v w1 h (hL.keep hb))
  have HQ := Lib.hid (fun a b v1 v2 w h1 h2 => refSameM_any a b v1 v2 w h1 h2)
  have HA := Lib.hid (fun w1 (hb : Below w.heap.size w w1) => awake7_any w1 (hL.keep hb))
  replace h2 := Lib.hid h2
  clear h1 hL
  go_enter Tryd.func8, Tryd.ntmps8
  go_wp2_with fail
  refine HM.out.mono ?_
  rintro e w1 ⟨M, vl, rfl, hok, hn, hb1⟩
  have HI1 := Lib.hid (made_in hok hn)
  obtain ⟨lo, lc, rfl, _, _⟩ := hn.form
  obtain ⟨nn, hnn⟩ : ∃ k, M.list.length = k := ⟨_, rfl⟩
  rw [hnn] at HI1
  rw [hnn]
  have Hok := Lib.hid hok
  have HL1 := Lib.hid hb1
  have h3 := Lib.hid (listAt_later h2.out hb1)
  clear hn hok hb1 hnn HM h2
  unfold msgV strV at HI1
  unfold msgV strV
  go_wp2_with fail
  refine (HN.out _ h3.out).mono ?_
  rintro e w2 ⟨N, vm, rfl, hok, hn, hb⟩
  have hi2 := made_in hok hn
  obtain ⟨mo, mc, rfl, _, _⟩ := hn.form
  obtain ⟨mm, hmm⟩ : ∃ k, N.list.length = k := ⟨_, rfl⟩
  rw [hmm] at hi2
  rw [hmm]
  have HI2 := Lib.hid hi2
  have Hok2 := Lib.hid hok
  have HL2 := Lib.hid (msg_next HL1.out hb)
  have HI1 := Lib.hid (HI1.out.later hb)
  clear hn hok hb hmm HN HL1 h3 hi2
  unfold msgV strV at HI2
  unfold msgV strV
  go_wp2_with fail
  obtain ⟨hx, hy⟩ := two_boxes HI1.out HI2.out
  have HX2 := Lib.hid hx
  have HY2 := Lib.hid hy
  have HL3 := Lib.hid ((HL2.out.alloc HL2.out.size (.cells (msgCells M (.slice lo nn lc)) 24)).alloc ((HL2.out.alloc HL2.out.size (.cells (msgCells M (.slice lo nn lc)) 24)).size) (.cells (msgCells N (.slice mo mm mc)) 24))
  clear hx hy HI1 HI2 HL2
  unfold msgCells strV at HX2 HY2 HL3
  generalize (w2.alloc (.cells #[.int .i64 M.kind, .int .i64 M.frm, .int .i64 M.to_, .int .i64 M.num, .int .i64 M.day, .int .i64 M.lot, .int .i64 M.other, .string ⟨M.code.toArray⟩, .string ⟨M.ctry.toArray⟩, .int .i64 M.qty, .int .i64 M.amt, .slice lo nn lc, .string ⟨M.text.toArray⟩] 24)).alloc (.cells #[.int .i64 N.kind, .int .i64 N.frm, .int .i64 N.to_, .int .i64 N.num, .int .i64 N.day, .int .i64 N.lot, .int .i64 N.other, .string ⟨N.code.toArray⟩, .string ⟨N.ctry.toArray⟩, .int .i64 N.qty, .int .i64 N.amt, .slice mo mm mc, .string ⟨N.text.toArray⟩] 24) = W2 at *
  generalize w2.heap.size + 1 = B2 at *
  generalize w2.heap.size = B1 at *
  have HE1 := HE.out M _ _ HX2.out.inn HL3.out
  rw [Hok.out, if_pos rfl] at HE1
  have HE2 := Lib.hid (fun W h hb => HE.out N (msgV N (.slice mo mm mc)) W h hb)
  rw [Hok2.out, if_pos rfl] at HE2
  have ht := inj_bytes Hok.out Hok2.out
  generalize bytesM M = bm at *
  generalize bytesM N = bn at *
  obtain ⟨Q, hQ⟩ : ∃ Q, msgB M N = Q := ⟨_, rfl⟩
  rw [hQ] at ht
  have HQ2 := Lib.hid (fun v1 v2 W h1 h2 => HQ.out M N v1 v2 W h1 h2)
  rw [hQ] at HQ2
  clear hQ Hok Hok2 HE HQ
  refine HE1.mono ?_
  rintro e w3 ⟨u, rfl, hu, hb⟩
  obtain ⟨uo, uc, hue, _⟩ := hu.slice
  obtain ⟨ul, hul⟩ : ∃ k, bm.length = k := ⟨_, rfl⟩
  rw [hul] at hue
  subst hue
  have HX3 := Lib.hid (HX2.out.keep hb)
  have HY3 := Lib.hid (HY2.out.keep hb)
  have HL4 := Lib.hid (msg_next HL3.out hb)
  have HU3 := Lib.hid hu
  clear HX2 HY2 HL3 hu hb HE1 hul
  obtain ⟨c0, c1, c2, c3, c4, c5, c6, c7, c8, c9, c10, c11, c12⟩ := HY3.out.cells
  go_wp2_with fail
  have HE3 := HE2.out _ HY3.out.inn HL4.out
  unfold msgV strV at HE3
  refine HE3.mono ?_
  rintro e w4 ⟨u, rfl, hu, hb⟩
  obtain ⟨xo, xc, hue, _⟩ := hu.slice
  obtain ⟨xl, hxl⟩ : ∃ k, bn.length = k := ⟨_, rfl⟩
  rw [hxl] at hue
  subst hue
  have HS4 := Lib.hid (⟨HX3.out.keep hb, HY3.out.keep hb, HU3.out.later hb, hu, msg_next HL4.out hb⟩ : InjAt w w4 B1 B2 M N (.slice lo nn lc) (.slice mo mm mc) (.slice uo ul uc) (.slice xo xl xc) bm bn)
  clear HX3 HY3 HL4 HU3 hu hb HE3 HE2 hxl c0 c1 c2 c3 c4 c5 c6 c7 c8 c9 c10 c11 c12
  go_wp2_with fail
  have hS0 := inj_all HS4.out
  clear HS4
  go_region_held3 (fun w' => w'.cell? ⟨B1, 0, none⟩ = some (.int .i64 M.kind) ∧ w'.cell? ⟨B1, 1, none⟩ = some (.int .i64 M.frm) ∧ w'.cell? ⟨B1, 2, none⟩ = some (.int .i64 M.to_) ∧ w'.cell? ⟨B1, 3, none⟩ = some (.int .i64 M.num) ∧ w'.cell? ⟨B1, 4, none⟩ = some (.int .i64 M.day) ∧ w'.cell? ⟨B1, 5, none⟩ = some (.int .i64 M.lot) ∧ w'.cell? ⟨B1, 6, none⟩ = some (.int .i64 M.other) ∧ w'.cell? ⟨B1, 7, none⟩ = some (.string ⟨M.code.toArray⟩) ∧ w'.cell? ⟨B1, 8, none⟩ = some (.string ⟨M.ctry.toArray⟩) ∧ w'.cell? ⟨B1, 9, none⟩ = some (.int .i64 M.qty) ∧ w'.cell? ⟨B1, 10, none⟩ = some (.int .i64 M.amt) ∧ w'.cell? ⟨B1, 11, none⟩ = some (.slice lo nn lc) ∧ w'.cell? ⟨B1, 12, none⟩ = some (.string ⟨M.text.toArray⟩) ∧ w'.cell? ⟨B2, 0, none⟩ = some (.int .i64 N.kind) ∧ w'.cell? ⟨B2, 1, none⟩ = some (.int .i64 N.frm) ∧ w'.cell? ⟨B2, 2, none⟩ = some (.int .i64 N.to_) ∧ w'.cell? ⟨B2, 3, none⟩ = some (.int .i64 N.num) ∧ w'.cell? ⟨B2, 4, none⟩ = some (.int .i64 N.day) ∧ w'.cell? ⟨B2, 5, none⟩ = some (.int .i64 N.lot) ∧ w'.cell? ⟨B2, 6, none⟩ = some (.int .i64 N.other) ∧ w'.cell? ⟨B2, 7, none⟩ = some (.string ⟨N.code.toArray⟩) ∧ w'.cell? ⟨B2, 8, none⟩ = some (.string ⟨N.ctry.toArray⟩) ∧ w'.cell? ⟨B2, 9, none⟩ = some (.int .i64 N.qty) ∧ w'.cell? ⟨B2, 10, none⟩ = some (.int .i64 N.amt) ∧ w'.cell? ⟨B2, 11, none⟩ = some (.slice mo mm mc) ∧ w'.cell? ⟨B2, 12, none⟩ = some (.string ⟨N.text.toArray⟩) ∧ (convert 32 9 (.slice uo ul uc)).run Tryd.prog w' = .ok (.string ⟨bm.toArray⟩) w' ∧ (convert 32 9 (.slice xo xl xc)).run Tryd.prog w' = .ok (.string ⟨bn.toArray⟩) w' ∧ InjAt w w' B1 B2 M N (.slice lo nn lc) (.slice mo mm mc) (.slice uo ul uc) (.slice xo xl xc) bm bn)
    (first
      | assumption
      | exact inj_drew (by assumption)
      | exact inj_call (by assumption) (by assumption)
      | exact inj_call (by assumption) (inj_drew (by assumption)))
    (first
      | (go_at_call 23; refine (HQ2.out _ _ _ (inj_of (w := w) (B1 := B1) (B2 := B2) (N := N) (vm := .slice mo mm mc) (u1 := .slice uo ul uc) (u2 := .slice xo xl xc) (bm := bm) (bn := bn) (by assumption)).one.inn (inj_of (w := w) (B1 := B1) (B2 := B2) (M := M) (vl := .slice lo nn lc) (u1 := .slice uo ul uc) (u2 := .slice xo xl xc) (bm := bm) (bn := bn) (by assumption)).two.inn).mono ?_; rintro e w' ⟨rfl, hbk⟩)
      | (go_at_call 14; refine (HA.out _ (inj_of (w := w) (B1 := B1) (B2 := B2) (M := M) (N := N) (vl := .slice lo nn lc) (vm := .slice mo mm mc) (u1 := .slice uo ul uc) (u2 := .slice xo xl xc) (bm := bm) (bn := bn) (by assumption)).below).mono ?_; rintro e w' ⟨rfl, hbk⟩))
  all_goals
    rename_i hh
    have hL := (hh.2.2.2.2.2.2.2.2.2.2.2.2.2.2.2.2.2.2.2.2.2.2.2.2.2.2.2.2).below
    go_wp2_with fail
    go_ret
    exact ⟨rfl, hL⟩
end Go.Proofs.YtepkihoakagidaaDoor
namespace Go.Proofs.YtepkihoakagidaaDoor
open Go.RowKit

theorem own_bytes {w : World} {base : Nat} {e : TypeId} {v : Value} {n : Nat} {l : List UInt8} (h : w.ownsRow base e 1 v n (l.map byteV)) : ByteRow w base e v l := by
  obtain ⟨h0, ⟨rfl, rfl⟩ | ⟨g, cap, cur, rfl, h2, h3, h4, h5, h6, h7⟩⟩ := h
  · exact .inl ⟨rfl, List.eq_nil_of_length_eq_zero (by simpa using h0)⟩
  · have hn : n = l.length := by simp at h0; omega
    subst hn
    exact .inr ⟨g, cap, cur, (0, 0), rfl, h2, h3, FreeTo.zero _, h4, h5, by omega, by simpa using h7⟩
theorem xor_byte (c y : UInt8) : bits .xor .u8 (c.toNat : Int) (y.toNat : Int) = ((c ^^^ y).toNat : Int) := by
  show IntKind.u8.wrap ((BitVec.ofInt 8 (c.toNat : Int) ^^^ BitVec.ofInt 8 (y.toNat : Int)).toNat : Int) = _
  have h1 : ∀ z : UInt8, (BitVec.ofInt 8 (z.toNat : Int)).toNat = z.toNat := fun z => by
    rw [BitVec.ofInt_natCast, BitVec.toNat_ofNat]; exact Nat.mod_eq_of_lt z.toNat_lt
  rw [BitVec.toNat_xor, h1, h1, ← UInt8.toNat_xor]
  have := (c ^^^ y).toNat_lt
  rw [IntKind.wrap_u8]
  omega
theorem xor_same (c y : UInt8) : c ^^^ y = c ↔ y = 0 := by
  constructor
  · intro h
    have : c ^^^ (c ^^^ y) = c ^^^ c := by rw [h]
    rw [← UInt8.xor_assoc, UInt8.xor_self, UInt8.zero_xor] at this
    exact this
  · rintro rfl
    exact UInt8.xor_zero

set_option maxRecDepth 100000 in
set_option maxHeartbeats 3200000 in
theorem messageChecksum_walk (v : Value) (b : List UInt8) (x : Int) (y : UInt8) (w : World) (hL : MLib w) (h : BytesIn (Has_ w) w v b) :
    Calls Tryd.prog 9 #[v, .int .i64 x, .int .u8 y.toNat] w fun e w' => e = .returned (.bool true) ∧ Below w.heap.size w w' := by
  have HK := Lib.hid (fun v b w h => msgChecksum_any v b w h)
  have HR := Lib.hid (fun v b w h => refChecksum_any v b w h)
  have HW := Lib.hid (fun x n w h1 h2 => madeWithin_wide x n h1 h2 w)
  have HA := Lib.hid (fun w1 (hb : Below w.heap.size w w1) => awake7_any w1 (hL.keep hb))
  obtain ⟨ao, cap, rfl, hc1, hc2⟩ := h.slice
  by_cases hlen : 5000 < b.length
  · obtain ⟨B, hB, hl2⟩ : ∃ B : List UInt8, Hid (BytesIn (Has_ w) w (.slice ao 5000 cap) B) ∧ Hid (B.length ≤ 5999) := ⟨b.take 5000, Lib.hid (h.firsts (n := 5000) (by omega)), Lib.hid (by rw [List.length_take]; omega)⟩
    obtain ⟨a, rfl⟩ : ∃ a, ao = some a := by
      obtain ⟨_, ⟨_, h1⟩ | ⟨a2, cap2, h2, _⟩⟩ := h
      · omega
      · injection h2 with e1
        exact ⟨a2, e1⟩
    have d1 : decide ((5000 : Int) < (b.length : Int)) = true := decide_eq_true (by omega)
    have d2 : (5000 : Int) ≤ (cap : Int) := by omega
    clear h hlen hc1 hc2 hL
    go_enter Tryd.func9, Tryd.ntmps9
    go_wp2_with fail
    clear d1 d2
    generalize b.length = bl at *
    generalize (5000 : Nat) = ml at *
    generalize (some a : Option Addr) = ao at *
    have hlm : Hid (B.length = ml) := Lib.hid (by
      obtain ⟨_, _, e, _⟩ := hB.out.slice
      injection e with _ e _
      exact e.symm)
    have hml : ml ≤ 5999 := by rw [← hlm.out]; exact hl2.out
    have h0 : Hid (ml = 0 → checkV B = 1) := Lib.hid (fun e => by
      have : B = [] := List.eq_nil_of_length_eq_zero (hlm.out.trans e)
      rw [this]
      rfl)
    have hset := Lib.hid (fun k (hk : k < B.length) z => check_set B k hk z)
    refine (HK.out _ B _ hB.out).mono ?_
    rintro e w1 ⟨rfl, hb1⟩
    have hB1 := Lib.hid (hB.out.later hb1)
    have hL1 := Lib.hid hb1
    clear hB hb1 hl2
    go_wp2_with fail
    refine (HR.out _ B _ hB1.out).mono ?_
    rintro e w2 ⟨rfl, rfl⟩
    clear HR
    generalize hcs : checkV B = cs at *
    by_cases hz : ml = 0
    · have hc1 := h0.out hz
      subst hz hc1
      go_wp2_with fail
      refine (HA.out _ hL1.out).mono ?_
      rintro e w2 ⟨rfl, hb⟩
      go_wp2_with fail
      go_ret
      exact ⟨rfl, msg_next hL1.out hb⟩
    have z1 : ((ml : Int) == 0) = false := by rw [beq_eq_false_iff_ne]; omega
    obtain ⟨i1, hj0, hy0, hy1, hy2⟩ := info_parts info_byte
    have K7 : Below w1.heap.size w1 (w1.alloc (.cells #[] 5)) := (Below.refl _ _).alloc (Nat.le_refl _) _
    have M1 := Lib.hid (show (w1.alloc (.cells #[] 5)).ownsRow w1.heap.size 5 1 (.slice (some ⟨w1.heap.size, 0, none⟩) 0 0) 0 [] from World.ownsRow_lit w1 #[] 0 (Nat.le_refl _) (Nat.zero_le _) rfl)
    have AC := Lib.hid ((bytes_of (hB1.out.later K7)).1)
    have AN := Lib.hid ((bytes_of hB1.out).2)
    have hal : Hid ((B.map byteV).length = ml * 1) := Lib.hid (by rw [List.length_map, hlm.out]; omega)
    have hk1 := Int.emod_nonneg x (show (ml : Int) ≠ 0 by omega)
    have hk2 := Int.emod_lt_of_pos x (show 0 < (ml : Int) by omega)
    have HW1 := Lib.hid (fun w => HW.out x (ml : Int) w (by omega) (by omega))
    obtain ⟨k, hk⟩ : ∃ k : Nat, x % (ml : Int) = k := ⟨(x % (ml : Int)).toNat, by omega⟩
    rw [hk] at HW1 hk2
    clear hk hk1 HW
    have hkB : k < B.length := by rw [hlm.out]; omega
    obtain ⟨c, hc⟩ : ∃ c, B[k]'hkB = c := ⟨_, rfl⟩
    have hset := Lib.hid (hset.out k hkB (c ^^^ y))
    rw [hc] at hset
    obtain ⟨z, hz2⟩ : ∃ z, c ^^^ y = z := ⟨_, rfl⟩
    have hzx := xor_byte c y
    have hzs := Lib.hid (xor_same c y)
    rw [hz2] at hset hzx hzs
    have k1 : (0 : Int) ≤ (k : Int) := by omega
    have k2 : (k : Int) < (ml : Int) := hk2
    obtain ⟨hkB2, hc2, hlm2⟩ : Hid (k < B.length) ∧ Hid (∀ h, B[k]'h = c) ∧ Hid (0 < B.length) := ⟨Lib.hid hkB, Lib.hid (fun _ => hc), Lib.hid (by omega)⟩
    have z0 : Hid (ml ≠ 0) := Lib.hid hz
    clear hkB hc hk2 hz2 hz h0
    go_wp2_with (first
      | (at_builtin; refine wpList_append_opt rfl _ _ 32 rfl w1.heap.size 5 i1 _ 1 1 Tryd.underlying32 hj0 hy0 hy1 hy2 rfl (by omega) _ 0 [] rfl M1.out K7.size ao ml cap (B.map byteV) rfl hal.out AN.out AC.out (byte_one B) (by unfold maxLen; omega) (by omega) ?_; intro v8 w8 own8 grow8; have K8 := Lib.hid (show Below w1.heap.size w1 w8 from Below.grown K7 grow8 K7.size (fun q hq => (M1.out.lt q hq).1)); have hrow := Lib.hid (own_bytes (l := B) own8); obtain ⟨g, gc, hg, hgb, hput⟩ := hrow.out.put hlm2.out; rw [hlm.out] at hg; subst hg; obtain ⟨_, cf, hnew⟩ := hput k hkB2.out; obtain ⟨ga, hga, cg⟩ := hrow.out.bytes.byte hkB2.out; obtain rfl := (Option.some.inj hga); rw [Addr.add_lit, Nat.zero_add, hc2.out] at cg; have hnew := Lib.hid (hnew z); have hgb := Lib.hid hgb; clear own8 grow8 hrow hput hga))
    refine (HW1.out _).mono ?_
    rintro e w9 ⟨rfl, rfl⟩
    have HL8 := Lib.hid (((msg_next hL1.out K8.out).setCell (p := ⟨g, k, none⟩) (Nat.le_trans hL1.out.size hgb.out) (byteV z)))
    unfold byteV at cg HL8 hnew
    clear HW1 K8 hgb hB1 hL1 K7 M1 AC AN hal
    go_wp2_with fail
    generalize w8.setCell ⟨g, k, none⟩ (.int .u8 (z.toNat : Int)) = w9 at *
    have hbx := hnew.out.bytes
    refine (HK.out _ (B.set k z) _ hbx).mono ?_
    rintro e w10 ⟨rfl, hb⟩
    have HL9 := Lib.hid (msg_next HL8.out hb)
    clear HL8 hnew hb hbx HK cg cf hzx hc2 hlm hlm2 hkB2
    generalize checkV (B.set k z) = cs2 at *
    have hyn : Hid (y = 0 ↔ y.toNat = 0) := Lib.hid ⟨fun e => by rw [e]; rfl, fun e => UInt8.toNat_inj.1 e⟩
    have hfin := Lib.hid (hset.out.trans (hzs.out.trans hyn.out))
    clear hset hzs hyn hcs
    generalize y.toNat = yn at *
    by_cases hyz : yn = 0
    · have hcc := hfin.out.2 hyz
      subst hyz hcc
      clear hfin
      go_wp2_with fail
      refine (HA.out _ HL9.out).mono ?_
      rintro e w11 ⟨rfl, hb⟩
      go_wp2_with fail
      go_ret
      exact ⟨rfl, msg_next HL9.out hb⟩
    · have q1 : ((cs2 : Int) == (cs : Int)) = false := by rw [beq_eq_false_iff_ne]; exact fun e => hyz (hfin.out.1 (by omega))
      have q2 : ((yn : Int) == 0) = false := by rw [beq_eq_false_iff_ne]; omega
      clear hfin hyz
      go_wp2_with fail
      refine (HA.out _ HL9.out).mono ?_
      rintro e w11 ⟨rfl, hb⟩
      go_wp2_with fail
      go_ret
      exact ⟨rfl, msg_next HL9.out hb⟩
  · obtain ⟨B, hB, hl2⟩ : ∃ B : List UInt8, Hid (BytesIn (Has_ w) w (.slice ao b.length cap) B) ∧ Hid (B.length ≤ 5999) := ⟨b, Lib.hid h, Lib.hid (by omega)⟩
    have d1 : decide ((5000 : Int) < (b.length : Int)) = false := decide_eq_false (by omega)
    clear h hlen hc1 hc2 hL
    go_enter Tryd.func9, Tryd.ntmps9
    go_wp2_with fail
    clear d1
    generalize b.length = ml at *
    have hlm : Hid (B.length = ml) := Lib.hid (by
      obtain ⟨_, _, e, _⟩ := hB.out.slice
      injection e with _ e _
      exact e.symm)
    have hml : ml ≤ 5999 := by rw [← hlm.out]; exact hl2.out
    have h0 : Hid (ml = 0 → checkV B = 1) := Lib.hid (fun e => by
      have : B = [] := List.eq_nil_of_length_eq_zero (hlm.out.trans e)
      rw [this]
      rfl)
    have hset := Lib.hid (fun k (hk : k < B.length) z => check_set B k hk z)
    refine (HK.out _ B _ hB.out).mono ?_
    rintro e w1 ⟨rfl, hb1⟩
    have hB1 := Lib.hid (hB.out.later hb1)
    have hL1 := Lib.hid hb1
    clear hB hb1 hl2
    go_wp2_with fail
    refine (HR.out _ B _ hB1.out).mono ?_
    rintro e w2 ⟨rfl, rfl⟩
    clear HR
    generalize hcs : checkV B = cs at *
    by_cases hz : ml = 0
    · have hc1 := h0.out hz
      subst hz hc1
      go_wp2_with fail
      refine (HA.out _ hL1.out).mono ?_
      rintro e w2 ⟨rfl, hb⟩
      go_wp2_with fail
      go_ret
      exact ⟨rfl, msg_next hL1.out hb⟩
    have z1 : ((ml : Int) == 0) = false := by rw [beq_eq_false_iff_ne]; omega
    obtain ⟨i1, hj0, hy0, hy1, hy2⟩ := info_parts info_byte
    have K7 : Below w1.heap.size w1 (w1.alloc (.cells #[] 5)) := (Below.refl _ _).alloc (Nat.le_refl _) _
    have M1 := Lib.hid (show (w1.alloc (.cells #[] 5)).ownsRow w1.heap.size 5 1 (.slice (some ⟨w1.heap.size, 0, none⟩) 0 0) 0 [] from World.ownsRow_lit w1 #[] 0 (Nat.le_refl _) (Nat.zero_le _) rfl)
    have AC := Lib.hid ((bytes_of (hB1.out.later K7)).1)
    have AN := Lib.hid ((bytes_of hB1.out).2)
    have hal : Hid ((B.map byteV).length = ml * 1) := Lib.hid (by rw [List.length_map, hlm.out]; omega)
    have hk1 := Int.emod_nonneg x (show (ml : Int) ≠ 0 by omega)
    have hk2 := Int.emod_lt_of_pos x (show 0 < (ml : Int) by omega)
    have HW1 := Lib.hid (fun w => HW.out x (ml : Int) w (by omega) (by omega))
    obtain ⟨k, hk⟩ : ∃ k : Nat, x % (ml : Int) = k := ⟨(x % (ml : Int)).toNat, by omega⟩
    rw [hk] at HW1 hk2
    clear hk hk1 HW
    have hkB : k < B.length := by rw [hlm.out]; omega
    obtain ⟨c, hc⟩ : ∃ c, B[k]'hkB = c := ⟨_, rfl⟩
    have hset := Lib.hid (hset.out k hkB (c ^^^ y))
    rw [hc] at hset
    obtain ⟨z, hz2⟩ : ∃ z, c ^^^ y = z := ⟨_, rfl⟩
    have hzx := xor_byte c y
    have hzs := Lib.hid (xor_same c y)
    rw [hz2] at hset hzx hzs
    have k1 : (0 : Int) ≤ (k : Int) := by omega
    have k2 : (k : Int) < (ml : Int) := hk2
    obtain ⟨hkB2, hc2, hlm2⟩ : Hid (k < B.length) ∧ Hid (∀ h, B[k]'h = c) ∧ Hid (0 < B.length) := ⟨Lib.hid hkB, Lib.hid (fun _ => hc), Lib.hid (by omega)⟩
    have z0 : Hid (ml ≠ 0) := Lib.hid hz
    clear hkB hc hk2 hz2 hz h0
    go_wp2_with (first
      | (at_builtin; refine wpList_append_opt rfl _ _ 32 rfl w1.heap.size 5 i1 _ 1 1 Tryd.underlying32 hj0 hy0 hy1 hy2 rfl (by omega) _ 0 [] rfl M1.out K7.size ao ml cap (B.map byteV) rfl hal.out AN.out AC.out (byte_one B) (by unfold maxLen; omega) (by omega) ?_; intro v8 w8 own8 grow8; have K8 := Lib.hid (show Below w1.heap.size w1 w8 from Below.grown K7 grow8 K7.size (fun q hq => (M1.out.lt q hq).1)); have hrow := Lib.hid (own_bytes (l := B) own8); obtain ⟨g, gc, hg, hgb, hput⟩ := hrow.out.put hlm2.out; rw [hlm.out] at hg; subst hg; obtain ⟨_, cf, hnew⟩ := hput k hkB2.out; obtain ⟨ga, hga, cg⟩ := hrow.out.bytes.byte hkB2.out; obtain rfl := (Option.some.inj hga); rw [Addr.add_lit, Nat.zero_add, hc2.out] at cg; have hnew := Lib.hid (hnew z); have hgb := Lib.hid hgb; clear own8 grow8 hrow hput hga))
    refine (HW1.out _).mono ?_
    rintro e w9 ⟨rfl, rfl⟩
    have HL8 := Lib.hid (((msg_next hL1.out K8.out).setCell (p := ⟨g, k, none⟩) (Nat.le_trans hL1.out.size hgb.out) (byteV z)))
    unfold byteV at cg HL8 hnew
    clear HW1 K8 hgb hB1 hL1 K7 M1 AC AN hal
    go_wp2_with fail
    generalize w8.setCell ⟨g, k, none⟩ (.int .u8 (z.toNat : Int)) = w9 at *
    have hbx := hnew.out.bytes
    refine (HK.out _ (B.set k z) _ hbx).mono ?_
    rintro e w10 ⟨rfl, hb⟩
    have HL9 := Lib.hid (msg_next HL8.out hb)
    clear HL8 hnew hb hbx HK cg cf hzx hc2 hlm hlm2 hkB2
    generalize checkV (B.set k z) = cs2 at *
    have hyn : Hid (y = 0 ↔ y.toNat = 0) := Lib.hid ⟨fun e => by rw [e]; rfl, fun e => UInt8.toNat_inj.1 e⟩
    have hfin := Lib.hid (hset.out.trans (hzs.out.trans hyn.out))
    clear hset hzs hyn hcs
    generalize y.toNat = yn at *
    by_cases hyz : yn = 0
    · have hcc := hfin.out.2 hyz
      subst hyz hcc
      clear hfin
      go_wp2_with fail
      refine (HA.out _ HL9.out).mono ?_
      rintro e w11 ⟨rfl, hb⟩
      go_wp2_with fail
      go_ret
      exact ⟨rfl, msg_next HL9.out hb⟩
    · have q1 : ((cs2 : Int) == (cs : Int)) = false := by rw [beq_eq_false_iff_ne]; exact fun e => hyz (hfin.out.1 (by omega))
      have q2 : ((yn : Int) == 0) = false := by rw [beq_eq_false_iff_ne]; omega
      clear hfin hyz
      go_wp2_with fail
      refine (HA.out _ HL9.out).mono ?_
      rintro e w11 ⟨rfl, hb⟩
      go_wp2_with fail
      go_ret
      exact ⟨rfl, msg_next HL9.out hb⟩
end Go.Proofs.YtepkihoakagidaaDoor
