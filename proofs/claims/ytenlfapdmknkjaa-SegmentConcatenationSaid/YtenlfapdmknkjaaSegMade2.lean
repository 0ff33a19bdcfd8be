/- What Segments of the made inputs returns: at most twelve valid segments. Condition: the list's cells are known. -/
import Derived.Test.YtenlfapdmknkjaaSegMade1
import Derived.Test.YtenlfapdmknkjaaSegLeft
import Derived.Test.YtenlfapdmknkjaaSegVal
import Derived.Test.YtenlfapdmknkjaaCut
import Derived.Laws.OwnMore
import Derived.Deep.DeepCutAuto
namespace Go.Proofs.Ytenlfapdmknkjaa
open Go.RowKit

/-- How long a slice is. -/
def lenV : Value → Nat
  | .slice _ n _ => n
  | _ => 0
/-- The tags that are made. -/
def tagF (r : Nat) : List UInt8 := if r = 0 then [76, 79, 84] else if r = 1 then [71, 68, 83] else if r = 2 then [65, 48, 48] else [69, 78, 68]
theorem tagF_ok (r : Nat) : tagB (tagF r) = true := by
  unfold tagF
  split
  · rfl
  · split
    · rfl
    · split <;> rfl
theorem tagF_len (r : Nat) : (tagF r).length = 3 := by
  unfold tagF
  split
  · rfl
  · split
    · rfl
    · split <;> rfl
theorem tags_at (w : World) (r : Nat) (h : r < 4) : (w.alloc (.cells #[.string ⟨#[76, 79, 84]⟩, .string ⟨#[71, 68, 83]⟩, .string ⟨#[65, 48, 48]⟩, .string ⟨#[69, 78, 68]⟩] 9)).cell? ⟨w.heap.size, r, none⟩ = some (.string ⟨(tagF r).toArray⟩) := by
  obtain rfl | rfl | rfl | rfl : r = 0 ∨ r = 1 ∨ r = 2 ∨ r = 3 := by omega
  all_goals simp [go_sem, tagF]
theorem info_str1 : (Try.prog.info? 9).map (fun i => (i.zero, i.size, i.bytes)) = some (some (.string ⟨#[]⟩), 1, 16) := by kernel_rfl
theorem info_strs1 : (Try.prog.info? 49).map (fun i => (i.zero, i.size, i.bytes)) = some (some (.slice none 0 0), 1, 24) := by kernel_rfl
theorem info_seg1 : (Try.prog.info? 24).map (fun i => (i.zero, i.size, i.bytes)) = some (some (.agg #[.string ⟨#[]⟩, .slice none 0 0]), 2, 40) := by kernel_rfl
theorem one_new (W : World) (x : Value) (t : TypeId) : ∀ j u, ([x] : List Value)[j]? = some u → (W.alloc (.cells #[x] t)).cell? ((⟨W.heap.size, 0, none⟩ : Addr).add j) = some u := by
  intro j u hj
  match j with
  | 0 =>
    simp at hj
    rw [← hj, Addr.add_lit]
    simp [go_sem]
  | j + 1 => simp at hj
theorem two_new (W : World) (x y : Value) (t : TypeId) : ∀ j u, ([x, y] : List Value)[j]? = some u → (W.alloc (.cells #[x, y] t)).cell? ((⟨W.heap.size, 0, none⟩ : Addr).add j) = some u := by
  intro j u hj
  match j with
  | 0 =>
    simp at hj
    rw [← hj, Addr.add_lit]
    simp [go_sem]
  | 1 =>
    simp at hj
    rw [← hj, Addr.add_lit]
    simp [go_sem]
  | j + 2 => simp at hj
/-- The form of a row's slice. -/
theorem row_form {w : World} {base : Nat} {e : TypeId} {size : Nat} {v : Value} {n : Nat} {xs : List Value} (h : w.ownsRow base e size v n xs) : ∃ ao cap, v = .slice ao n cap := by
  rcases h.2 with ⟨h1, h2⟩ | ⟨g, cap, _, h1, _⟩
  · exact ⟨none, 0, by rw [h1, h2]⟩
  · exact ⟨_, cap, h1⟩
theorem row_some {w : World} {base : Nat} {e : TypeId} {size : Nat} {v : Value} {n : Nat} {xs : List Value} (h : w.ownsRow base e size v n xs) (hn : 0 < n) : ∃ g cap, v = .slice (some ⟨g, 0, none⟩) n cap := by
  rcases h.2 with ⟨_, h2⟩ | ⟨g, cap, _, h1, _⟩
  · omega
  · exact ⟨g, cap, h1⟩
/-- The variable of a segment is made. -/
theorem XAt.start {W0 w : World} {SB : Nat} (h : SourceAt W0 w SB) (t : List UInt8) : XAt W0 w (w.alloc (.cells #[.string ⟨t.toArray⟩, .slice none 0 0] 24)) SB w.heap.size t (.slice none 0 0) [] [] :=
  ⟨h.alloc _, (Since.refl _ _).alloc _, h.lt, Nat.le_refl _, by show (w.heap.push _)[w.heap.size]? = _; simp [strV], World.ownsRow_nil _ _ _ _, fun i e hi => by simp at hi⟩
theorem XAt.kept {W0 wS w w1 : World} {SB XB : Nat} {tag : List UInt8} {vE : Value} {us : List Value} {L : List (List (List UInt8))} (h : XAt W0 wS w SB XB tag vE us L) (hg : w.grownBy w1 vE.ownBlock) :
    w1.cell? ⟨XB, 1, none⟩ = some vE ∧ w1.frozen? ⟨XB, 1, none⟩ = false := by
  have ht := TurnsTy.of_grown hg (own_ty h.row)
  have e := ht.block XB _ _ _ h.box (by decide)
  obtain ⟨_, e1, e2⟩ := h.cells
  exact ⟨(World.cell?_of_block (a := ⟨XB, 1, none⟩) e).trans e1, (World.frozen?_of_block (a := ⟨XB, 1, none⟩) e).trans e2⟩
theorem OutAt.start {W0 w : World} {SB : Nat} (h : SourceAt W0 w SB) : OutAt W0 w SB (.slice none 0 0) [] [] := ⟨h, World.ownsRow_nil _ _ _ _, fun i s hi => by simp at hi, fun s hs => absurd hs (by simp)⟩
theorem source_start (v : Value) (m : Nat) (f : Nat → Int) (hm : m ≤ 1000000) (w : World) (h : ListAt w .i64 v m f) : SourceAt w (w.alloc (.cells #[v, .int .i64 0] 53)) w.heap.size :=
  ⟨Nat.le_refl _, (Below.refl _ _).alloc (Nat.le_refl _) _, v, m, f, 0, h, hm, Nat.zero_le _, by simp, by simp, by simp⟩

set_option maxRecDepth 100000 in
set_option maxHeartbeats 6400000 in
theorem madeSegments_any (v : Value) (n : Nat) (f : Nat → Int) (w : World) (h : ListAt w .i64 v n f) :
    Calls Try.prog 12 #[v] w fun e w' => ∃ (u : Value) (L : List Seg), e = .returned u ∧ L.length ≤ 12 ∧ (∀ s ∈ L, segE s = 0) ∧ SegsIn (Has_ w') w' u L ∧ Below w.heap.size w w' := by
  have HCut := Lib.hid (cut_any 200 v n f w h)
  have HN := Lib.hid (fun (k : Int) (h1 : 0 < k) (h2 : k ≤ 1000000000000) (SB : Nat) (w1 : World) (h : SourceAt w w1 SB) => next_any k h1 h2 SB w w1 h)
  have HL := Lib.hid (fun (SB : Nat) (w1 : World) (h : SourceAt w w1 SB) => left_any SB w w1 h)
  have HX := Lib.hid (fun (SB : Nat) (w1 : World) (h : SourceAt w w1 SB) => madeText_any SB w w1 h)
  clear h
  obtain ⟨i0, hi0, hz0, hz1, hz2⟩ := info_parts info_str1
  obtain ⟨i1, hj, hy0, hy1, hy2⟩ := info_parts info_strs1
  obtain ⟨i2, hk, hx0, hx1, hx2⟩ := info_parts info_seg1
  go_enter Try.func12, Try.ntmps12
  go_wp2_with fail
  refine HCut.out.mono ?_
  rintro e w1 ⟨u, rfl, hu, rfl⟩
  have H0 := Lib.hid (source_start u (min n 200) f (by omega) w hu)
  have hform : ∃ b cap, u = .slice b (min n 200) cap := by
    rcases hu with ⟨h, h0⟩ | ⟨a, cap, h, _⟩
    · exact ⟨none, 0, by rw [h, h0]⟩
    · exact ⟨some a, cap, h⟩
  obtain ⟨b, cap, rfl⟩ := hform
  clear hu HCut
  go_wp2_with fail
  obtain ⟨SB, hSB⟩ : ∃ SB, SB = w.heap.size := ⟨_, rfl⟩
  rw [← hSB] at H0 ⊢
  clear hSB
  generalize w.alloc (.cells #[.slice b (min n 200) cap, .int .i64 0] 53) = W1 at *
  have HO := Lib.hid (OutAt.start H0.out)
  clear H0
  go_loopw [4] (fun vo wx => ∃ (ao : Option Addr) (c : Nat) (us : List Value) (acc : List Seg), vo = .slice ao acc.length c ∧ acc.length ≤ 12 ∧ Hid (OutAt w wx SB (.slice ao acc.length c) us acc)) (fun vo _ => 12 - lenV vo)
  case atStart => exact ⟨none, 0, [], [], rfl, by decide, HO⟩
  case round =>
    clear HO
    obtain ⟨ao, c, us, acc, rfl, hacc, HO⟩ := hrel
    go_wp2_with fail
    refine (HL.out _ _ HO.out.src).mono ?_
    rintro e w2 ⟨bl, rfl, k0, rfl⟩
    have HO2 := Lib.hid (HO.out.since ((Since.refl _ _).drewN k0) (HO.out.src.drewN k0))
    clear HO
    generalize wr.drewN k0 = w2 at *
    cases bl with
    | false =>
      go_wp2_with fail
      go_ret
      exact ⟨_, acc, rfl, hacc, HO2.out.good, HO2.out.done, HO2.out.src.below⟩
    | true =>
      by_cases h12 : acc.length < 12
      · have d1 : decide ((acc.length : Int) < 12) = true := decide_eq_true (by omega)
        have HS := Lib.hid (HO2.out.src.alloc (.cells #[.string ⟨#[76, 79, 84]⟩, .string ⟨#[71, 68, 83]⟩, .string ⟨#[65, 48, 48]⟩, .string ⟨#[69, 78, 68]⟩] 9))
        have HO3 := Lib.hid (HO2.out.since ((Since.refl _ _).alloc (.cells #[.string ⟨#[76, 79, 84]⟩, .string ⟨#[71, 68, 83]⟩, .string ⟨#[65, 48, 48]⟩, .string ⟨#[69, 78, 68]⟩] 9)) HS.out)
        have HT := Lib.hid (tags_at w2)
        have hTB := HO2.out.src.lt
        clear HO2
        go_wp2_with fail
        generalize w2.alloc (.cells #[.string ⟨#[76, 79, 84]⟩, .string ⟨#[71, 68, 83]⟩, .string ⟨#[65, 48, 48]⟩, .string ⟨#[69, 78, 68]⟩] 9) = w3 at *
        generalize w2.heap.size = TB at *
        refine (HN.out 4 (by omega) (by omega) _ _ HS.out).mono ?_
        rintro e w4 ⟨r, rfl, r0, r1, hs, hn⟩
        obtain ⟨rn, rfl⟩ : ∃ m : Nat, r = m := ⟨r.toNat, by omega⟩
        have hT2 := (hn.cell (b := TB) (o := rn) (by omega)).1.trans (HT.out rn (by omega))
        have HO4 := Lib.hid (HO3.out.since (Since.next hn) hs)
        have HA := Lib.hid (XAt.start hs (tagF rn))
        have htag := Lib.hid (tagF_ok rn)
        have htl := tagF_len rn
        clear HS HO3 HT hs hn
        generalize tagF rn = tag at *
        go_wp2_with fail
        obtain ⟨XB, hXB⟩ : ∃ XB, XB = w4.heap.size := ⟨_, rfl⟩
        rw [← hXB] at HA ⊢
        clear hXB hT2
        generalize w4.alloc (.cells #[.string ⟨tag.toArray⟩, .slice none 0 0] 24) = w5 at *
        refine (HN.out 4 (by omega) (by omega) _ _ HA.out.src).mono ?_
        rintro e w6 ⟨q, rfl, q0, q1, hs, hn⟩
        obtain ⟨qn, rfl⟩ : ∃ m : Nat, q = m := ⟨q.toNat, by omega⟩
        have HA1 := Lib.hid (HA.out.next (Since.next hn) hs)
        have HG0 := Lib.hid (GoodE.nil (n := qn) (by omega))
        clear HA hs hn
        go_wp2_with fail
        go_loopw [6] (fun vn wx => ∃ (k : Nat) (vE : Value) (us2 : List Value) (L : List (List (List UInt8))), vn = .int .i64 k ∧ Hid (GoodE L k) ∧ Hid (XAt w w4 wx SB XB tag vE us2 L)) (fun vn _ => (intOf vn).toNat)
        case atStart => exact ⟨qn, _, [], [], by go_num, HG0, HA1⟩
        case round =>
          clear HA1 HG0
          obtain ⟨k, vE, us2, L, rfl, HG, HA1⟩ := hrel
          obtain ⟨xo, xc, rfl⟩ := row_form HA1.out.row
          rcases Nat.eq_zero_or_pos k with rfl | hkp
          · -- the segment is done
            obtain ⟨⟨x0, x1⟩, y0, y1⟩ := HA1.out.cells
            have hseg := Lib.hid (HG.out.seg htag.out)
            have HO5 := Lib.hid (HO4.out.since HA1.out.since HA1.out.src)
            have HOa := Lib.hid (HO5.out.since ((Since.refl _ _).alloc (.cells #[strV tag, .slice xo L.length xc] 24)) (HO5.out.src.alloc _))
            have hEl := Lib.hid (HA1.out.els.keep fun _ hb => hb.since ((Since.refl _ _).alloc (.cells #[strV tag, .slice xo L.length xc] 24)))
            have hnn := two_new wr (strV tag) (.slice xo L.length xc) 24
            have hbz := HO5.out.src.lt
            have hbz2 : SB + 1 ≤ (wr.alloc (.cells #[strV tag, .slice xo L.length xc] 24)).heap.size := by simp; omega
            clear HG HO4 HO5 HA1
            unfold strV at x0 HOa hEl hnn hbz2
            go_wp2_with (at_builtin; refine wpList_append_own _ rfl _ _ 30 rfl (SB + 1) 24 i2 (.agg #[.string ⟨#[]⟩, .slice none 0 0]) 2 40 Try.underlying30 hk hx0 hx1 hx2 rfl (by decide) _ acc.length us rfl HOa.out.row ⟨wr.heap.size, 0, none⟩ 1 1 [strV tag, Value.slice xo L.length xc] rfl rfl hnn (by intro u hu; simp at hu; rcases hu with rfl | rfl <;> rfl) (by unfold maxLen; omega) (by omega) hbz2 ?_)
            intro v8 w8 hown8 hg8 _
            have HO8 := Lib.hid (HOa.out.push (s := ⟨tag, L⟩) hEl.out (by rw [htl]; unfold maxLen; omega) hseg.out hown8 hg8)
            obtain ⟨g8, c8, rfl⟩ := row_some hown8 (by omega)
            clear HOa hEl hown8 hg8 hnn x0 x1 y0 y1
            go_wp2_with fail
            go_roundw
            case rel => exact ⟨_, _, _, acc ++ [⟨tag, L⟩], by rw [List.length_append]; rfl, by rw [List.length_append]; exact h12, by rw [List.length_append]; exact HO8⟩
            case measure => simp [lenV]; omega
          · obtain ⟨m, rfl⟩ : ∃ m, k = m + 1 := ⟨k - 1, by omega⟩
            have zm : ((m + 1 : Nat) : Int) = (m : Int) + 1 := by omega
            have dm : decide ((0 : Int) < (m : Int) + 1) = true := decide_eq_true (by omega)
            go_wp2_with fail
            refine (HN.out 4 (by omega) (by omega) _ _ HA1.out.src).mono ?_
            rintro e wE ⟨q, rfl, q0, q1, hs, hn⟩
            obtain ⟨qk, rfl⟩ : ∃ m : Nat, q = m := ⟨q.toNat, by omega⟩
            have HAE := Lib.hid (HA1.out.next (Since.next hn) hs)
            have HE0 := Lib.hid (EAt.start hs)
            have hq3 : qk ≤ 3 := by omega
            clear HA1 hs hn
            go_wp2_with fail
            go_loopw [7, 8] (fun ve vk wx => ∃ (k : Nat) (eo : Option Addr) (ec : Nat) (cur : List (List UInt8)), ve = .slice eo cur.length ec ∧ vk = .int .i64 k ∧ cur.length + k ≤ 3 ∧ Hid (EAt w wE wx SB (.slice eo cur.length ec) cur)) (fun _ vk _ => (intOf vk).toNat)
            case atStart => exact ⟨qk, none, 0, [], rfl, by go_num, by simpa using hq3, HE0⟩
            case round =>
              clear HE0
              obtain ⟨k, eo, ec, cur, rfl, rfl, hck, HE⟩ := hrel
              rcases Nat.eq_zero_or_pos k with rfl | hkp2
              · -- the element is done
                have HA2 := Lib.hid (HAE.out.next HE.out.since HE.out.src)
                obtain ⟨⟨x0, x1⟩, y0, y1⟩ := HA2.out.cells
                rcases Nat.eq_zero_or_pos cur.length with hc0 | hcp
                · obtain rfl : cur = [] := List.eq_nil_of_length_eq_zero hc0
                  rcases Nat.eq_zero_or_pos m with rfl | hmp
                  · have HE3 := Lib.hid (HE.out.one (x := [120]) (by decide))
                    have HA3 := Lib.hid (HA2.out.next ((Since.refl _ _).alloc (.cells #[.string ⟨([120] : List UInt8).toArray⟩] 9)) (HA2.out.src.alloc _))
                    have hgood : Hid (lastE [[120]] = false ∧ (0 = 0 → ([[120]] : List (List UInt8)) ≠ []) ∧ ([[120]] : List (List UInt8)).length ≤ 3) := Lib.hid ⟨rfl, fun _ => by simp, by decide⟩
                    go_upto_region 18 with fail
                    clear x0 x1 y0 y1 HA2 HE HAE
                    have HA2 := HA3
                    clear HA3
                    generalize wr.heap.size = eg at *
                    generalize wr.alloc (.cells #[.string ⟨([120] : List UInt8).toArray⟩] 9) = W at *
                    obtain ⟨⟨x0, x1⟩, y0, y1⟩ := HA2.out.cells
                    have HAa := Lib.hid (HA2.out.next ((Since.refl _ _).alloc (.cells #[Value.slice (some ⟨eg, 0, none⟩) 1 1] 49)) (HA2.out.src.alloc _))
                    have hAb := HA2.out.below
                    have hEb := Lib.hid ((HE3.out.alloc (.cells #[Value.slice (some ⟨eg, 0, none⟩) 1 1] 49)).row)
                    have hEs := Lib.hid (fun x hx => Nat.le_trans (HE3.out.short x hx) (show 4 ≤ maxLen by unfold maxLen; omega))
                    have hEl := HE3.out.below
                    have hnn := one_new W (Value.slice (some ⟨eg, 0, none⟩) 1 1) 49
                    have hL3 := HG.out.len
                    have HG2 := Lib.hid (HG.out.push hgood.out.2.2 HE3.out.short hgood.out.1 hgood.out.2.1)
                    clear HG hgood HE3 HA2
                    go_wp2_with (at_builtin; refine wpList_append_own _ rfl _ _ 22 rfl w4.heap.size 49 i1 (.slice none 0 0) 1 24 Try.underlying22 hj hy0 hy1 hy2 rfl (by decide) _ L.length us2 rfl HAa.out.row ⟨W.heap.size, 0, none⟩ 1 1 [Value.slice (some ⟨eg, 0, none⟩) 1 1] rfl rfl hnn (by intro u hu; simp at hu; rcases hu with rfl; rfl) (by unfold maxLen; omega) (by omega) HAa.out.since.size ?_)
                    intro v7 w7 hown7 hg7 _
                    obtain ⟨g7, c7, rfl⟩ := row_some hown7 (by omega)
                    obtain ⟨k7, f7⟩ := HAa.out.kept hg7
                    have HA7 := Lib.hid (HAa.out.push hEb.out hEl hEs.out hown7 hg7)
                    clear HAa hEb hEs hown7 hg7 hnn x0 x1 y0 y1
                    go_wp2_with fail
                    go_roundw
                    case rel => exact ⟨0, _, _, _, by go_num, HG2, HA7⟩
                    case measure => simp [intOf]
                  · have hgood : Hid (lastE [] = false ∧ (m = 0 → ([] : List (List UInt8)) ≠ []) ∧ ([] : List (List UInt8)).length ≤ 3) := Lib.hid ⟨rfl, fun h => by omega, by decide⟩
                    have e1 : ((m : Int) + 1 == 1) = false := by rw [beq_eq_false_iff_ne]; omega
                    have e2 : ((m : Int) == 0) = false := by rw [beq_eq_false_iff_ne]; omega
                    go_upto_region 18 with fail
                    clear x0 x1 y0 y1 HAE
                    obtain ⟨⟨x0, x1⟩, y0, y1⟩ := HA2.out.cells
                    have HAa := Lib.hid (HA2.out.next ((Since.refl _ _).alloc (.cells #[Value.slice eo ([] : List (List UInt8)).length ec] 49)) (HA2.out.src.alloc _))
                    have hAb := HA2.out.below
                    have hEb := Lib.hid ((HE.out.alloc (.cells #[Value.slice eo ([] : List (List UInt8)).length ec] 49)).row)
                    have hEs := Lib.hid (fun x hx => Nat.le_trans (HE.out.short x hx) (show 4 ≤ maxLen by unfold maxLen; omega))
                    have hEl := HE.out.below
                    have hnn := one_new wr (Value.slice eo ([] : List (List UInt8)).length ec) 49
                    have hL3 := HG.out.len
                    have HG2 := Lib.hid (HG.out.push hgood.out.2.2 HE.out.short hgood.out.1 hgood.out.2.1)
                    clear HG hgood HE HA2
                    go_wp2_with (at_builtin; refine wpList_append_own _ rfl _ _ 22 rfl w4.heap.size 49 i1 (.slice none 0 0) 1 24 Try.underlying22 hj hy0 hy1 hy2 rfl (by decide) _ L.length us2 rfl HAa.out.row ⟨wr.heap.size, 0, none⟩ 1 1 [Value.slice eo ([] : List (List UInt8)).length ec] rfl rfl hnn (by intro u hu; simp at hu; rcases hu with rfl; rfl) (by unfold maxLen; omega) (by omega) HAa.out.since.size ?_)
                    intro v7 w7 hown7 hg7 _
                    obtain ⟨g7, c7, rfl⟩ := row_some hown7 (by omega)
                    obtain ⟨k7, f7⟩ := HAa.out.kept hg7
                    have HA7 := Lib.hid (HAa.out.push hEb.out hEl hEs.out hown7 hg7)
                    clear HAa hEb hEs hown7 hg7 hnn x0 x1 y0 y1
                    go_wp2_with fail
                    go_roundw
                    case rel => exact ⟨m, _, _, _, by go_num, HG2, HA7⟩
                    case measure => simp [intOf]
                · obtain ⟨ei, hei⟩ : ∃ i, cur.length = i + 1 := ⟨cur.length - 1, by omega⟩
                  obtain ⟨eg, rfl⟩ : ∃ g, eo = some ⟨g, 0, none⟩ := by
                    obtain ⟨g, c2, h2⟩ := row_some HE.out.row hcp
                    injection h2 with h3
                    exact ⟨g, h3⟩
                  have hx : cur[ei]? = some (cur[ei]'(by omega)) := List.getElem?_eq_getElem (by omega)
                  obtain ⟨last, hl⟩ : ∃ last, cur[ei]? = some last := ⟨_, hx⟩
                  clear hx
                  have hlast := Lib.hid (last_at (e := cur) (x := last) (by rw [hei, Nat.add_sub_cancel]; exact hl))
                  obtain ⟨k5, k6⟩ := HE.out.cell hl
                  have zi : ((ei + 1 : Nat) : Int) = (ei : Int) + 1 := by omega
                  have z1 : ((cur.length : Nat) : Int) = (ei : Int) + 1 := by omega
                  have z2 : decide ((0 : Int) < (ei : Int) + 1) = true := decide_eq_true (by omega)
                  have z3 : ((ei : Int) + 1 == 0) = false := by rw [beq_eq_false_iff_ne]; omega
                  have z4 : ((cur.length : Int) == 0) = false := by rw [beq_eq_false_iff_ne]; omega
                  by_cases hl0 : last = []
                  · subst hl0
                    have HE3 := Lib.hid (HE.out.put (x := [121]) (by decide) ei)
                    have HA3 := Lib.hid (HAE.out.next HE3.out.since HE3.out.src)
                    have hgood : Hid (lastE (cur.set ei [121]) = false ∧ (m = 0 → cur.set ei [121] ≠ []) ∧ (cur.set ei [121]).length ≤ 3) := Lib.hid ⟨(last_at (by rw [List.length_set, hei, Nat.add_sub_cancel, List.getElem?_set_self (by omega)])).trans rfl, fun _ h => by
                      have := congrArg List.length h
                      rw [List.length_set, List.length_nil] at this
                      omega, by rw [List.length_set]; omega⟩
                    unfold strV at k5 HE3 HA3
                    rw [hei] at HE3
                    clear hlast
                    go_upto_region 18 with fail
                    all_goals
                      clear x0 x1 y0 y1 HA2 HE HAE k5 k6
                      have HA2 := HA3
                      clear HA3
                      generalize wr.setCell ⟨eg, ei, none⟩ (.string ⟨([121] : List UInt8).toArray⟩) = W at *
                      obtain ⟨⟨x0, x1⟩, y0, y1⟩ := HA2.out.cells
                      have HAa := Lib.hid (HA2.out.next ((Since.refl _ _).alloc (.cells #[Value.slice (some ⟨eg, 0, none⟩) (ei + 1) ec] 49)) (HA2.out.src.alloc _))
                      have hAb := HA2.out.below
                      have hEb := Lib.hid ((HE3.out.alloc (.cells #[Value.slice (some ⟨eg, 0, none⟩) (ei + 1) ec] 49)).row)
                      have hEs := Lib.hid (fun x hx => Nat.le_trans (HE3.out.short x hx) (show 4 ≤ maxLen by unfold maxLen; omega))
                      have hEl := HE3.out.below
                      have hnn := one_new W (Value.slice (some ⟨eg, 0, none⟩) (ei + 1) ec) 49
                      have hL3 := HG.out.len
                      have HG2 := Lib.hid (HG.out.push hgood.out.2.2 HE3.out.short hgood.out.1 hgood.out.2.1)
                      clear HG hgood HE3 HA2
                      go_wp2_with (at_builtin; refine wpList_append_own _ rfl _ _ 22 rfl w4.heap.size 49 i1 (.slice none 0 0) 1 24 Try.underlying22 hj hy0 hy1 hy2 rfl (by decide) _ L.length us2 rfl HAa.out.row ⟨W.heap.size, 0, none⟩ 1 1 [Value.slice (some ⟨eg, 0, none⟩) (ei + 1) ec] rfl rfl hnn (by intro u hu; simp at hu; rcases hu with rfl; rfl) (by unfold maxLen; omega) (by omega) HAa.out.since.size ?_)
                      intro v7 w7 hown7 hg7 _
                      obtain ⟨g7, c7, rfl⟩ := row_some hown7 (by omega)
                      obtain ⟨k7, f7⟩ := HAa.out.kept hg7
                      have HA7 := Lib.hid (HAa.out.push hEb.out hEl hEs.out hown7 hg7)
                      clear HAa hEb hEs hown7 hg7 hnn x0 x1 y0 y1
                      go_wp2_with fail
                      go_roundw
                      case rel => exact ⟨m, _, _, _, by go_num, HG2, HA7⟩
                      case measure => simp [intOf]
                  · have hgood : Hid (lastE cur = false ∧ (m = 0 → cur ≠ []) ∧ cur.length ≤ 3) := Lib.hid ⟨hlast.out.trans (by simpa using hl0), fun _ h => by rw [h] at hei; simp at hei, by omega⟩
                    have z6 : (last == []) = false := by rw [beq_eq_false_iff_ne]; exact hl0
                    unfold strV at k5
                    rw [hei] at HE
                    clear hlast
                    go_upto_region 18 with fail
                    all_goals
                      clear x0 x1 y0 y1 HAE k5 k6
                      obtain ⟨⟨x0, x1⟩, y0, y1⟩ := HA2.out.cells
                      have HAa := Lib.hid (HA2.out.next ((Since.refl _ _).alloc (.cells #[Value.slice (some ⟨eg, 0, none⟩) (ei + 1) ec] 49)) (HA2.out.src.alloc _))
                      have hAb := HA2.out.below
                      have hEb := Lib.hid ((HE.out.alloc (.cells #[Value.slice (some ⟨eg, 0, none⟩) (ei + 1) ec] 49)).row)
                      have hEs := Lib.hid (fun x hx => Nat.le_trans (HE.out.short x hx) (show 4 ≤ maxLen by unfold maxLen; omega))
                      have hEl := HE.out.below
                      have hnn := one_new wr (Value.slice (some ⟨eg, 0, none⟩) (ei + 1) ec) 49
                      have hL3 := HG.out.len
                      have HG2 := Lib.hid (HG.out.push hgood.out.2.2 HE.out.short hgood.out.1 hgood.out.2.1)
                      clear HG hgood HE HA2
                      go_wp2_with (at_builtin; refine wpList_append_own _ rfl _ _ 22 rfl w4.heap.size 49 i1 (.slice none 0 0) 1 24 Try.underlying22 hj hy0 hy1 hy2 rfl (by decide) _ L.length us2 rfl HAa.out.row ⟨wr.heap.size, 0, none⟩ 1 1 [Value.slice (some ⟨eg, 0, none⟩) (ei + 1) ec] rfl rfl hnn (by intro u hu; simp at hu; rcases hu with rfl; rfl) (by unfold maxLen; omega) (by omega) HAa.out.since.size ?_)
                      intro v7 w7 hown7 hg7 _
                      obtain ⟨g7, c7, rfl⟩ := row_some hown7 (by omega)
                      obtain ⟨k7, f7⟩ := HAa.out.kept hg7
                      have HA7 := Lib.hid (HAa.out.push hEb.out hEl hEs.out hown7 hg7)
                      clear HAa hEb hEs hown7 hg7 hnn x0 x1 y0 y1
                      go_wp2_with fail
                      go_roundw
                      case rel => exact ⟨m, _, _, _, by go_num, HG2, HA7⟩
                      case measure => simp [intOf]
              · obtain ⟨k, rfl⟩ : ∃ m, k = m + 1 := ⟨k - 1, by omega⟩
                have zk : ((k + 1 : Nat) : Int) = (k : Int) + 1 := by omega
                have dk : decide ((0 : Int) < (k : Int) + 1) = true := decide_eq_true (by omega)
                go_wp2_with fail
                refine (HX.out _ _ HE.out.src).mono ?_
                rintro e w5a ⟨l, rfl, hl4, hs, hn⟩
                have HE1 := Lib.hid ((HE.out.next hn hs).alloc (.cells #[strV l] 9))
                have hnn := one_new w5a (strV l) 9
                clear HE hs hn
                unfold strV at HE1 hnn ⊢
                go_wp2_with (at_builtin; refine wpList_append_own _ rfl _ _ 49 rfl wE.heap.size 9 i0 (.string ⟨#[]⟩) 1 16 Try.underlying49 hi0 hz0 hz1 hz2 rfl (by decide) _ cur.length (cur.map strV) rfl HE1.out.row ⟨w5a.heap.size, 0, none⟩ 1 1 [strV l] rfl rfl hnn (by intro u hu; simp at hu; rcases hu with rfl; rfl) (by unfold maxLen; omega) (by omega) HE1.out.since.size ?_)
                intro v6 w6a hown6 hg6 _
                have HE2 := Lib.hid (HE1.out.push hl4 hown6 hg6)
                obtain ⟨g6, c6, rfl⟩ := row_some hown6 (by omega)
                clear HE1 hown6 hg6 hnn
                go_wp2_with fail
                go_roundw
                case rel => exact ⟨k, _, _, cur ++ [l], by rw [List.length_append]; rfl, by go_num, by rw [List.length_append]; show cur.length + 1 + k ≤ 3; omega, by rw [List.length_append]; exact HE2⟩
                case measure => simp [intOf]
      · have d1 : decide ((acc.length : Int) < 12) = false := decide_eq_false (by omega)
        go_wp2_with fail
        go_ret
        exact ⟨_, acc, rfl, hacc, HO2.out.good, HO2.out.done, HO2.out.src.below⟩
end Go.Proofs.Ytenlfapdmknkjaa
