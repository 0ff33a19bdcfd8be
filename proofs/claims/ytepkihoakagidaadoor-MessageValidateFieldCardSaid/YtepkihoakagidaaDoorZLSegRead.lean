/- What the landed cut, readComponent, readElement and read of package segment return: a segment. Condition: the bytes' cells are known, and there are not too many. -/
import Derived.Test.YtepkihoakagidaaDoorG2
import Derived.Test.YtepkihoakagidaaDoorZLSegEnc
import Derived.WalkMore
namespace Go.Proofs.YtepkihoakagidaaDoor
open Go.RowKit

theorem results_three {fn : Func} {t u v : Tmp} (h : fn.results = #[.tmp t, .tmp u, .tmp v]) (tmps : Array Value) (P : Program) (w : World) :
    (results fn tmps).run P w = .ok (.tuple #[tmps.getD t undef, tmps.getD u undef, tmps.getD v undef]) w := by
  simp [results, h]
theorem bytes_empty (p : Nat → Prop) (w : World) : BytesIn p w (.slice none 0 0) [] := ⟨rfl, .inl ⟨rfl, rfl⟩⟩

set_option maxRecDepth 100000 in
set_option maxHeartbeats 1600000 in
theorem segCut_any (p : Nat → Prop) (v : Value) (b : List UInt8) (c : UInt8) (w : World) (h : BytesIn p w v b) (hc : c ≠ 63) (hb : b.length ≤ 1000000000) :
    Calls Tryd.prog 78 #[v, byteV c] w fun e w' => (∃ u1 u2, e = .returned (.tuple #[u1, u2, .bool (cutF c b).2.2]) ∧ BytesIn p w u1 (cutF c b).1 ∧ BytesIn p w u2 (cutF c b).2.1) ∧ ∃ k, w' = w.drewN k := by
  obtain ⟨ao, cap, rfl, hbc⟩ := h.form
  have HI := Lib.hid h
  have HB := Lib.hid hbc
  obtain ⟨R, hR⟩ : ∃ R, R = cutF c b := ⟨_, rfl⟩
  have HR := Lib.hid hR
  rw [← hR]
  clear hR h hbc
  unfold byteV
  go_enter Tryd.func78, Tryd.ntmps78
  go_wp2_with fail
  go_step3
  go_wp2_with fail
  go_step3
  go_wp2_with fail
  go_loopw [7] (fun vn wx => ∃ n : Nat, vn = .int .i64 n ∧ n ≤ b.length + 1 ∧ Hid (CutTo c b n) ∧ wx = w) (fun vn _ => b.length + 2 - (intOf vn).toNat)
  case atStart => exact ⟨0, by go_num, by omega, Lib.hid (CutTo.zero c b), by first | rfl | trivial⟩
  case round =>
    obtain ⟨n, rfl, hn, HC, rfl⟩ := hrel
    by_cases hlt : n < b.length
    · obtain ⟨x, hx⟩ : ∃ x, b[n]? = some x := ⟨_, List.getElem?_eq_getElem hlt⟩
      obtain ⟨a, rfl, _, hq⟩ := HB.out n x hx
      unfold byteV at hq
      have d1 : decide ((n : Int) < (b.length : Int)) = true := decide_eq_true (by omega)
      have hxc : ((x.toNat : Int) == (c.toNat : Int)) = (x == c) := by
        rw [byte_eq x c.toNat (by have := c.toNat_lt; omega)]
        simp
      have hx63 : ((x.toNat : Int) == 63) = (x == 63) := byte_eq x 63 (by omega)
      by_cases h1 : x = c
      · have hhit := HC.out.hit (by rw [hx, h1])
        have hR := HR.out.trans (cutF_some hhit)
        rw [h1] at hxc hx63 hq
        have d2 : ((c.toNat : Int) == (c.toNat : Int)) = true := by rw [hxc]; simp
        have d3 : decide ((b.length : Int) ≤ (n : Int)) = false := decide_eq_false (by omega)
        have hcap := HI.out.cap
        have j1 : (0 : Int) ≤ (n : Int) := by omega
        have j2 : (n : Int) ≤ (cap : Int) := by omega
        have hT := Lib.hid (HI.out.take (n := n) (by omega))
        have hD := Lib.hid (HI.out.drop (n := n + 1) (by omega))
        clear HC HR HB hxc hx63 hhit h1 hx
        subst hR
        go_wp2_with fail
        have j3 : (0 : Int) ≤ (n : Int) + 1 := by omega
        have j4 : (n : Int) + 1 ≤ (b.length : Int) := by omega
        have j5 : ((n : Int) + 1).toNat = n + 1 := by omega
        by_cases hcn : cap = n + 1
        · subst hcn
          have j6 : n + 1 - (n + 1) = 0 := by omega
          have hD2 := Lib.hid (show BytesIn p wr (Value.slice (some a) 0 0) (b.drop (n + 1)) from ⟨by simp, .inr ⟨a, 0, by rw [List.length_drop, show b.length - (n + 1) = 0 by omega], by rw [List.length_drop]; omega, by omega, fun h0 => by rw [List.length_drop] at h0; omega, fun j u hj => by
            rw [List.drop_eq_nil_of_le (by omega)] at hj
            simp at hj⟩⟩)
          clear hD
          go_quiet (fail)
          go_wp2_with fail
          rw [Exit.noGoto_ret]
          refine bodyPost_ret (results_three rfl _ _ _) rfl ?_
          exact ⟨⟨_, _, rfl, hT.out, hD2.out⟩, _, rfl⟩
        · have j6 : cap - (n + 1) ≠ 0 := by omega
          have hD2 := Lib.hid (show BytesIn p wr (Value.slice (some { block := a.block, off := a.off + (n + 1) }) (b.length - (n + 1)) (cap - (n + 1))) (b.drop (n + 1)) from hD.out)
          clear hD
          go_quiet (fail)
          go_wp2_with fail
          rw [Exit.noGoto_ret]
          refine bodyPost_ret (results_three rfl _ _ _) rfl ?_
          exact ⟨⟨_, _, rfl, hT.out, hD2.out⟩, _, rfl⟩
      · have d2 : ((x.toNat : Int) == (c.toNat : Int)) = false := by rw [hxc]; exact beq_eq_false_iff_ne.2 h1
        by_cases h2 : x = 63
        · have HN := Lib.hid (HC.out.pair hc (by rw [hx, h2]))
          have d3 : ((x.toNat : Int) == 63) = true := by rw [hx63, h2]; rfl
          clear HC HR HB HI hxc hx63 h1 hx
          go_wp2_with fail
          go_roundw
          case rel => exact ⟨n + 2, by go_num, by omega, HN, by first | rfl | trivial⟩
          case measure => simp [intOf]; omega
        · have HN := Lib.hid (HC.out.step hx h1 h2)
          have d3 : ((x.toNat : Int) == 63) = false := by rw [hx63]; exact beq_eq_false_iff_ne.2 h2
          clear HC HR HB HI hxc hx63 h1 hx
          go_wp2_with fail
          go_roundw
          case rel => exact ⟨n + 1, by go_num, by omega, HN, by first | rfl | trivial⟩
          case measure => simp [intOf]; omega
    · have hR := HR.out.trans (cutF_none (HC.out.over (by omega)))
      have d1 : decide ((n : Int) < (b.length : Int)) = false := decide_eq_false (by omega)
      have d3 : decide ((b.length : Int) ≤ (n : Int)) = true := decide_eq_true (by omega)
      clear HC HR HB
      subst hR
      go_wp2_with fail
      rw [Exit.noGoto_ret]
      refine bodyPost_ret (results_three rfl _ _ _) rfl ?_
      exact ⟨⟨_, _, rfl, HI.out, bytes_empty p _⟩, 0, rfl⟩

theorem BytesIn.form2 {p : Nat → Prop} {w : World} {ao : Option Addr} {len cap : Nat} {b : List UInt8} (h : BytesIn p w (.slice ao len cap) b) (i : Nat) (c : UInt8) (hi : b[i]? = some c) : ∃ a, ao = some a ∧ p a.block ∧ w.cell? (a.add i) = some (byteV c) := by
  obtain ⟨ao2, cap2, h1, h2⟩ := h.form
  cases h1
  exact h2 i c hi
theorem unesc_len : ∀ (t : List UInt8) (m : Bool), (unesc m t).length ≤ t.length
  | [], _ => Nat.le_refl _
  | c :: r, m => by
    show (if (c == 63 && !m) = true then unesc true r else c :: unesc false r).length ≤ r.length + 1
    have h1 := unesc_len r true
    have h2 := unesc_len r false
    split
    · omega
    · simp; omega
theorem unesc_step {t : List UInt8} {i : Nat} {c : UInt8} (h : t[i]? = some c) (m : Bool) : unesc m (t.drop i) = if (c == 63 && !m) = true then unesc true (t.drop (i + 1)) else c :: unesc false (t.drop (i + 1)) := by
  obtain ⟨hi, rfl⟩ := List.getElem?_eq_some_iff.1 h
  rw [List.drop_eq_getElem_cons hi]
  rfl

set_option maxRecDepth 100000 in
set_option maxHeartbeats 1600000 in
theorem segComponent_any (v : Value) (t : List UInt8) (w : World) (h : BytesIn (Has_ w) w v t) (hl : t.length ≤ 1000000000) :
    Calls Tryd.prog 94 #[v] w fun e w' => e = .returned (strV (unesc false t)) ∧ Below w.heap.size w w' := by
  obtain ⟨ao, cap, rfl, hbc⟩ := h.form
  obtain ⟨i0, hi, hz0, hz1, hz2⟩ := info_parts info_byte
  have HI := Lib.hid h
  obtain ⟨R, hR⟩ : ∃ R, R = unesc false t := ⟨_, rfl⟩
  have HR := Lib.hid (show R = [] ++ unesc false (t.drop 0) from hR)
  rw [← hR]
  obtain ⟨w1, hmk, hown0, hg0⟩ := run_make_own (P := Tryd.prog) (w := w) w.heap.size 32 5 i0 (.int .u8 0) 1 Tryd.underlying32 hi hz0 hz1 .i64 .i64 t.length (by rw [hz2]; omega) (by unfold maxLen; omega) (Nat.le_refl _)
  have HA0 := Lib.hid (show AppAt w.heap.size w w1 (.slice (some ⟨w.heap.size, 0, none⟩) 0 t.length) [] from ⟨ByteRow.of_own hown0, (Below.refl _ _).grown hg0 (Nat.le_refl _) (by simp), hg0.size⟩)
  clear hR h hbc hown0 hg0
  go_enter Tryd.func94, Tryd.ntmps94
  go_wp2_with fail
  clear hmk
  go_loopw [3, 4, 12] (fun vb vm vi wx => ∃ (u : Value) (l : List UInt8) (m : Bool) (i : Nat), u = vb ∧ vm = .bool m ∧ vi = .int .i64 i ∧ i ≤ t.length ∧ l.length ≤ i ∧ Hid (R = l ++ unesc m (t.drop i)) ∧ Hid (AppAt w.heap.size w wx u l)) (fun _ _ vi _ => t.length - (intOf vi).toNat)
  case atStart => exact ⟨_, [], false, 0, rfl, rfl, by go_num, by omega, Nat.le_refl _, HR, HA0⟩
  case round =>
    clear HR HA0
    obtain ⟨u, l, m, i, rfl, rfl, rfl, hi', hll, hF, HA⟩ := hrel
    by_cases hlt : i < t.length
    · obtain ⟨c, hc⟩ : ∃ c, t[i]? = some c := ⟨_, List.getElem?_eq_getElem hlt⟩
      obtain ⟨a, hao, ha, hq⟩ := (HI.out.keep HA.out.below).form2 i c hc
      subst hao
      unfold byteV at hq
      have d1 : decide ((i : Int) < (t.length : Int)) = true := decide_eq_true (by omega)
      have h63 : ((c.toNat : Int) == 63) = (c == 63) := byte_eq c 63 (by omega)
      have hst := unesc_step hc m
      have HAa := Lib.hid (HA.out.alloc (.cells #[.int .u8 (c.toNat : Int)] 5))
      have HN := Lib.hid (fun W => one_news W c (c.toNat : Int) rfl 5)
      have hl1 : l.length + 1 ≤ 100000000000000 := by omega
      have hll1 : (l ++ [c]).length ≤ i + 1 := by rw [List.length_append]; exact Nat.succ_le_succ hll
      by_cases hcm : c = 63 ∧ m = false
      · obtain ⟨rfl, rfl⟩ := hcm
        have hF2 := Lib.hid (show R = l ++ unesc true (t.drop (i + 1)) by rw [hF.out, hst]; rfl)
        clear hF hst HAa hc HN h63 hll1
        go_wp2_with fail
        go_roundw
        case rel => exact ⟨_, l, true, i + 1, rfl, rfl, by go_num, by omega, by omega, hF2, HA⟩
        case measure => simp [intOf]; omega
      · have hb : (c == 63 && !m) = false := by
          cases m with
          | true => simp
          | false =>
            have : c ≠ 63 := fun e => hcm ⟨e, rfl⟩
            rw [beq_eq_false_iff_ne.2 this]
            rfl
        have hF2 := Lib.hid (show R = (l ++ [c]) ++ unesc false (t.drop (i + 1)) by rw [hF.out, hst, hb]; simp)
        clear hF hst hc HA hcm
        cases m
        all_goals
          cases hk : (c == 63)
          all_goals
            first
              | (exfalso; rw [hk] at hb; cases hb; done)
              | (rw [hk] at h63
                 clear hb hk
                 go_wp2_with (at_builtin; refine wpList_append_bytes rfl _ _ 32 rfl w.heap.size 5 i0 Tryd.underlying32 hi hz0 hz1 hz2 _ l rfl HAa.out.row ⟨wr.heap.size, 0, none⟩ 1 [c] rfl (HN.out wr) hl1 HAa.out.hi ?_)
                 intro vb3 w3 hr3 hg3
                 have HA3 := Lib.hid (HAa.out.grown hr3 hg3)
                 clear HAa hr3 hg3 HN
                 go_wp2_with fail
                 go_roundw
                 case rel => exact ⟨_, _, false, i + 1, rfl, rfl, by go_num, by omega, hll1, hF2, HA3⟩
                 case measure => simp [intOf]; omega)
    · obtain rfl : i = t.length := by omega
      have hR : R = l := by rw [hF.out, List.drop_length]; cases m <;> exact List.append_nil _
      have d1 : decide ((t.length : Int) < (t.length : Int)) = false := decide_eq_false (by omega)
      have hcv := run_text_of_cells (P := Tryd.prog) wr 32 9 5 u _ Tryd.underlying32 Tryd.underlying5 Tryd.underlying9 HA.out.row.cells
      clear hF
      subst hR
      go_wp2_with fail
      go_ret
      exact ⟨rfl, HA.out.below⟩

/-- Blocks of texts. -/
def TxtB (w : World) (b : Nat) : Prop := ∃ cs fz, w.heap[b]? = some (.cells cs 9 fz)
/-- The components so far. -/
structure CompAt (w wx : World) (vt vc : Value) (rest : List UInt8) (acc : List (List UInt8)) : Prop where
  inp : BytesIn (Has_ w) wx vt rest
  row : wx.ownsRow w.heap.size 9 1 vc acc.length (acc.map strV)
  short : ∀ x ∈ acc, x.length ≤ maxLen
  below : Below w.heap.size w wx
theorem CompAt.keep {w wx w1 : World} {vt vc vt1 : Value} {rest rest1 : List UInt8} {acc : List (List UInt8)} (h : CompAt w wx vt vc rest acc) (hb : Below wx.heap.size wx w1) (hi : BytesIn (Has_ w) wx vt1 rest1) : CompAt w w1 vt1 vc rest1 acc :=
  ⟨CellsIn.keep hi fun b hb1 => ⟨hb1, hb.block b (Nat.lt_of_lt_of_le hb1 h.below.size)⟩, (TurnsTy.of_below (t := 5) hb).own h.row (by decide), h.short, h.below.trans (hb.mono h.below.size)⟩
theorem CompAt.push {w wx w1 : World} {vt vc v1 : Value} {rest x : List UInt8} {acc : List (List UInt8)} (h : CompAt w wx vt vc rest acc) (hr : w1.ownsRow w.heap.size 9 1 v1 (acc.length + 1) (acc.map strV ++ [strV x])) (hg : wx.grownBy w1 vc.ownBlock) (hx : x.length ≤ maxLen) : CompAt w w1 vt v1 rest (acc ++ [x]) :=
  ⟨CellsIn.keep h.inp fun b hb1 => ⟨hb1, hg.block b (Nat.lt_of_lt_of_le hb1 h.below.size) (fun e => by
      have := (h.row.lt b e.symm).1
      have hb2 : b < w.heap.size := hb1
      omega)⟩, by simpa using hr, fun y hy => by
    rcases List.mem_append.1 hy with hy | hy
    · exact h.short y hy
    · rw [List.mem_singleton.1 hy]; exact hx, below_grown h.below hg fun k hk => (h.row.lt k hk).1⟩
theorem CompAt.done {w wx : World} {vt vc : Value} {rest : List UInt8} {acc : List (List UInt8)} (h : CompAt w wx vt vc rest acc) : StrsIn (TxtB wx) wx vc acc :=
  ⟨(CellsIn.own h.row).keep fun b hb => by
    obtain ⟨cs, fz, hc⟩ := own_ty h.row b hb.2.2
    exact ⟨⟨cs, fz, hc⟩, rfl⟩, h.short⟩
/-- How many elements a slice has. -/
def sliceLen : Value → Nat
  | .slice _ n _ => n
  | _ => 0
def cellLen : Option Value → Nat
  | some v => sliceLen v
  | none => 0
theorem own_form {w : World} {base : Nat} {e : TypeId} {size : Nat} {v : Value} {n : Nat} {xs : List Value} (h : w.ownsRow base e size v n xs) : ∃ ao cap, v = .slice ao n cap ∧ n ≤ maxLen := by
  rcases h.2 with ⟨h1, h2⟩ | ⟨g, cap, cur, h1, _, _, h2, h3, _⟩
  · exact ⟨none, 0, by rw [h1, h2], by rw [h2]; exact Nat.zero_le _⟩
  · exact ⟨_, cap, h1, Nat.le_trans h2 h3⟩
/-- The components that are still to be read. -/
def compsM (m : Bool) (k : Nat) (t : List UInt8) : List (List UInt8) := if m = true then compsF k t else []
theorem compsM_step (k : Nat) (t : List UInt8) : compsM true (k + 1) t = unesc false (cutF 58 t).1 :: compsM (cutF 58 t).2.2 k (cutF 58 t).2.1 := rfl
theorem compsM_none (k : Nat) (t : List UInt8) : compsM false k t = [] := rfl
theorem compsM_full (m : Bool) (t : List UInt8) : compsM m 0 t = [] := by cases m <;> rfl
theorem strs_none (p : Nat → Prop) (w : World) : StrsIn p w (.slice none 0 0) [] := ⟨⟨rfl, .inl ⟨rfl, rfl⟩⟩, fun x hx => absurd hx (by simp)⟩
theorem news_str (w1 : World) (x : List UInt8) : ∀ j u, ([strV x] : List Value)[j]? = some u → (w1.alloc (.cells #[.string ⟨x.toArray⟩] 9)).cell? ((⟨w1.heap.size, 0, none⟩ : Addr).add j) = some u := by
  intro j u hj
  match j with
  | 0 =>
    simp at hj
    rw [← hj, Addr.add_lit]
    unfold strV
    simp [go_sem]
  | j + 1 => simp at hj

set_option maxRecDepth 100000 in
set_option maxHeartbeats 1600000 in
theorem segElement_any (v : Value) (t : List UInt8) (w : World) (h : BytesIn (Has_ w) w v t) (hl : t.length ≤ 1000000000) :
    Calls Tryd.prog 87 #[v] w fun e w' => ∃ u, e = .returned u ∧ StrsIn (TxtB w') w' u (elemF t) ∧ Below w.heap.size w w' := by
  obtain ⟨ao, cap, rfl, _⟩ := h.form
  by_cases h0 : t.length = 0
  · have hR : elemF t = [] := if_pos h0
    have d0 : ((t.length : Int) == 0) = true := by rw [beq_iff_eq]; omega
    rw [hR]
    clear hR h
    go_enter Tryd.func87, Tryd.ntmps87
    go_wp2_with fail
    go_ret
    exact ⟨_, rfl, strs_none _ _, Below.refl _ _⟩
  · have d0 : ((t.length : Int) == 0) = false := by rw [beq_eq_false_iff_ne]; omega
    obtain ⟨R, hR⟩ : ∃ R, R = elemF t := ⟨_, rfl⟩
    have HR := Lib.hid (show R = [] ++ compsM true (100 - ([] : List (List UInt8)).length) t from hR.trans (if_neg h0))
    rw [← hR]
    have HA0 := Lib.hid (show CompAt w w (.slice ao t.length cap) (.slice none 0 0) t [] from ⟨h, World.ownsRow_nil _ _ _ _, fun x hx => absurd hx (by simp), Below.refl _ _⟩)
    clear hR h
    go_enter Tryd.func87, Tryd.ntmps87
    go_wp2_with fail
    go_loopw [0, 4, 3] (fun v0 v4 v3 wx => ∃ (u0 u3 : Value) (m : Bool) (rest : List UInt8) (acc : List (List UInt8)), u0 = v0 ∧ v4 = .bool m ∧ u3 = v3 ∧ acc.length ≤ 100 ∧ rest.length ≤ 1000000000 ∧ Hid (R = acc ++ compsM m (100 - acc.length) rest) ∧ Hid (CompAt w wx u0 u3 rest acc)) (fun _ _ v3 _ => 100 - sliceLen v3)
    case atStart => exact ⟨_, _, true, t, [], rfl, rfl, rfl, by simp, hl, HR, HA0⟩
    case round =>
      clear HR HA0 h0 d0 hl
      obtain ⟨u0, u3, m, rest, acc, rfl, rfl, rfl, hac, hrl, hF, HA⟩ := hrel
      obtain ⟨ro, rc, rfl, _⟩ := own_form HA.out.row
      by_cases hgo : m = true ∧ acc.length < 100
      · obtain ⟨rfl, hlt⟩ := hgo
        have d1 : decide ((acc.length : Int) < 100) = true := decide_eq_true (by omega)
        have hk : 100 - acc.length = (100 - (acc.length + 1)) + 1 := by omega
        have hF1 := hF.out
        rw [hk, compsM_step] at hF1
        obtain ⟨hc1, hc2⟩ := cutF_len 58 rest
        have HC := Lib.hid (segCut_any (Has_ w) u0 rest 58 wr HA.out.inp (by decide) hrl)
        have HL := Lib.hid (unesc_len (cutF 58 rest).1 false)
        have hF2 := Lib.hid (show R = (acc ++ [unesc false (cutF 58 rest).1]) ++ compsM (cutF 58 rest).2.2 (100 - (acc ++ [unesc false (cutF 58 rest).1]).length) (cutF 58 rest).2.1 by
          rw [hF1, List.length_append]
          simp)
        generalize cutF 58 rest = C at *
        obtain ⟨C1, C2, C3⟩ := C
        dsimp only at *
        have H58 : byteV 58 = .int .u8 58 := rfl
        rw [H58] at HC
        clear hF hF1 hk H58
        go_wp2_with fail
        refine HC.out.mono ?_
        rintro e w1 ⟨⟨u1, u2, rfl, hu1, hu2⟩, k, rfl⟩
        have hbk : Below wr.heap.size wr (wr.drewN k) := below_drewN (Below.refl _ _) k
        have HA1 := Lib.hid (HA.out.keep hbk hu2)
        have HS := Lib.hid (segComponent_any u1 C1 (wr.drewN k) (CellsIn.keep hu1 fun b hb => ⟨Nat.lt_of_lt_of_le hb HA.out.below.size, rfl⟩) (by omega))
        generalize wr.drewN k = w1 at *
        clear HC HA hu1 hu2 hbk
        generalize unesc false C1 = X at *
        go_wp2_with fail
        refine HS.out.mono ?_
        rintro e w2 ⟨rfl, hb2⟩
        have hx : X.length ≤ maxLen := by have := HL.out; unfold maxLen; omega
        have HA2 := Lib.hid ((HA1.out.keep hb2 HA1.out.inp).keep ((Below.refl w2.heap.size w2).alloc (Nat.le_refl _) (.cells #[.string ⟨X.toArray⟩] 9)) (HA1.out.keep hb2 HA1.out.inp).inp)
        obtain ⟨i1, hj, hy0, hy1, hy2⟩ := info_parts info_str
        have hnn := news_str w2 X
        clear HS HA1 HL
        unfold strV
        go_wp2_with (at_builtin; refine wpList_append_own _ rfl _ _ 50 rfl w.heap.size 9 i1 (.string ⟨#[]⟩) 1 16 Tryd.underlying50 hj hy0 hy1 hy2 rfl (by decide) _ acc.length (acc.map strV) rfl HA2.out.row ⟨w2.heap.size, 0, none⟩ 1 1 [strV X] rfl rfl hnn (by intro u hu; simp at hu; rcases hu with rfl; rfl) (by unfold maxLen; omega) (by omega) HA2.out.below.size ?_)
        intro v1 w3 hown3 hg3 _
        have HA3 := Lib.hid (HA2.out.push hown3 hg3 hx)
        obtain ⟨so, sc, rfl, _⟩ := own_form hown3
        clear HA2 hown3 hg3 hnn
        go_wp2_with fail
        go_roundw
        case rel => exact ⟨_, _, C3, C2, acc ++ [X], rfl, rfl, rfl, by rw [List.length_append]; show acc.length + 1 ≤ _; omega, by omega, hF2, HA3⟩
        case measure => simp [sliceLen]; omega
      · have hR : R = acc := by
          rw [hF.out]
          cases m with
          | false => rw [compsM_none, List.append_nil]
          | true =>
            rw [show 100 - acc.length = 0 by have : ¬ acc.length < 100 := fun h => hgo ⟨rfl, h⟩; omega, compsM_full, List.append_nil]
        have d1 : m = true → decide ((acc.length : Int) < 100) = false := fun e => decide_eq_false (by have : ¬ acc.length < 100 := fun h => hgo ⟨e, h⟩; omega)
        clear hF hgo
        subst hR
        cases m
        · clear d1
          go_wp2_with fail
          go_ret
          exact ⟨_, rfl, HA.out.done, HA.out.below⟩
        · have d2 := d1 rfl
          clear d1
          go_wp2_with fail
          go_ret
          exact ⟨_, rfl, HA.out.done, HA.out.below⟩

/-- What lies there while the landed read runs: its result's box, the box of what it reads, the elements so far. -/
structure RdAt (w wx : World) (tag : List UInt8) (vr vE : Value) (rest : List UInt8) (us : List Value) (L : List (List (List UInt8))) : Prop where
  inp : BytesIn (Has_ w) wx vr rest
  res : wx.heap[w.heap.size]? = some (.cells #[.string ⟨#[]⟩, .slice none 0 0] 49 (0, 0))
  box : wx.heap[w.heap.size + 1]? = some (.cells #[.string ⟨tag.toArray⟩, vE] 49 (0, 0))
  row : wx.ownsRow w.heap.size 50 1 vE L.length us
  fin : ∀ (i : Nat) (e : List (List UInt8)), L[i]? = some e → ∃ u, us[i]? = some u ∧ StrsIn (TxtB wx) wx u e
  below : Below w.heap.size w wx
theorem TxtB.keep {w w1 : World} {b : Nat} (h : TxtB w b) (hb : Below w.heap.size w w1) : TxtB w1 b ∧ w1.heap[b]? = w.heap[b]? := by
  obtain ⟨cs, fz, h⟩ := h
  have e := hb.block b (Array.getElem?_eq_some_iff.1 h).1
  exact ⟨⟨cs, fz, e.trans h⟩, e⟩
theorem TxtB.turn {t : TypeId} {w w1 : World} {b : Nat} (h : TxtB w b) (hne : 9 ≠ t) (ht : TurnsTy t w w1) : TxtB w1 b ∧ w1.heap[b]? = w.heap[b]? := by
  obtain ⟨cs, fz, h⟩ := h
  have e := ht.block b cs _ fz h hne
  exact ⟨⟨cs, fz, e.trans h⟩, e⟩
theorem RdAt.keep {w wx w1 : World} {tag : List UInt8} {vr vE vr1 : Value} {rest rest1 : List UInt8} {us : List Value} {L : List (List (List UInt8))} (h : RdAt w wx tag vr vE rest us L) (hb : Below wx.heap.size wx w1) (hi : BytesIn (Has_ w) wx vr1 rest1) : RdAt w w1 tag vr1 vE rest1 us L :=
  ⟨CellsIn.keep hi fun b hb1 => ⟨hb1, hb.block b (Nat.lt_of_lt_of_le hb1 h.below.size)⟩, (hb.block _ (Array.getElem?_eq_some_iff.1 h.res).1).trans h.res, (hb.block _ (Array.getElem?_eq_some_iff.1 h.box).1).trans h.box, (TurnsTy.of_below (t := 5) hb).own h.row (by decide), fun i e hi => by
    obtain ⟨u, h1, h2⟩ := h.fin i e hi
    exact ⟨u, h1, h2.keep fun b hb1 => hb1.keep hb⟩, h.below.trans (hb.mono h.below.size)⟩
theorem RdAt.on {w wx w1 : World} {tag : List UInt8} {vr vE : Value} {rest : List UInt8} {us : List Value} {L : List (List (List UInt8))} (h : RdAt w wx tag vr vE rest us L) (hb : Below wx.heap.size wx w1) : RdAt w w1 tag vr vE rest us L := h.keep hb h.inp
theorem RdAt.cells {w wx : World} {tag : List UInt8} {vr vE : Value} {rest : List UInt8} {us : List Value} {L : List (List (List UInt8))} (h : RdAt w wx tag vr vE rest us L) :
    (wx.cell? ⟨w.heap.size + 1, 0, none⟩ = some (.string ⟨tag.toArray⟩) ∧ wx.frozen? ⟨w.heap.size + 1, 0, none⟩ = false) ∧ wx.cell? ⟨w.heap.size + 1, 1, none⟩ = some vE ∧ wx.frozen? ⟨w.heap.size + 1, 1, none⟩ = false := by
  have := h.box
  refine ⟨⟨?_, ?_⟩, ?_, ?_⟩ <;> simp [World.cell?, World.frozen?, this]
theorem RdAt.resCells {w wx : World} {tag : List UInt8} {vr vE : Value} {rest : List UInt8} {us : List Value} {L : List (List (List UInt8))} (h : RdAt w wx tag vr vE rest us L) :
    (wx.cell? ⟨w.heap.size, 0, none⟩ = some (.string ⟨#[]⟩) ∧ wx.frozen? ⟨w.heap.size, 0, none⟩ = false) ∧ wx.cell? ⟨w.heap.size, 1, none⟩ = some (.slice none 0 0) ∧ wx.frozen? ⟨w.heap.size, 1, none⟩ = false := by
  have := h.res
  refine ⟨⟨?_, ?_⟩, ?_, ?_⟩ <;> simp [World.cell?, World.frozen?, this]
/-- An element more: it is appended, and the row is stored back. -/
theorem RdAt.push {w wx w1 : World} {tag : List UInt8} {vr vE v1 u : Value} {rest : List UInt8} {us : List Value} {L : List (List (List UInt8))} {e : List (List UInt8)} (h : RdAt w wx tag vr vE rest us L) (hu : StrsIn (TxtB wx) wx u e)
    (hr : w1.ownsRow w.heap.size 50 1 v1 (L.length + 1) (us ++ [u])) (hg : wx.grownBy w1 vE.ownBlock) : RdAt w (w1.setCell ⟨w.heap.size + 1, 1, none⟩ v1) tag vr v1 rest (us ++ [u]) (L ++ [e]) := by
  have ht := TurnsTy.of_grown hg (own_ty h.row)
  have hbox := (ht.block _ _ _ _ h.box (by decide)).trans h.box
  have ht2 := TurnsTy.of_set (i := 1) hbox v1
  have hlen : us.length = L.length := by have := h.row.1; omega
  have hbel : Below w.heap.size w w1 := below_grown h.below hg fun k hk => (h.row.lt k hk).1
  refine ⟨CellsIn.keep h.inp fun b hb1 => ⟨hb1, ?_⟩, ?_, ?_, ?_, fun i e1 hi => ?_, hbel.setCell (Nat.le_succ _) _⟩
  · have hb2 : b < w.heap.size := hb1
    exact ((Below.refl w.heap.size w1).setCell (Nat.le_succ _) v1).block b hb2 |>.trans (hg.block b (Nat.lt_of_lt_of_le hb1 h.below.size) (fun e => by
      have := (h.row.lt b e.symm).1
      omega))
  · have e1 := (ht.block _ _ _ _ h.res (by decide)).trans h.res
    rw [heap_setCell_other _ ⟨w.heap.size + 1, 1, none⟩ _ v1 (by show w.heap.size ≠ w.heap.size + 1; omega)]
    exact e1
  · rw [setCell_eq_setRow w1 (w.heap.size + 1) 1 _ _ _ v1 hbox]
    exact setRow_heap w1 (w.heap.size + 1) _ _ _ _ hbox
  · have := ht2.own hr (by decide)
    simpa using this
  · by_cases hl : i < L.length
    · rw [List.getElem?_append_left hl] at hi
      obtain ⟨u1, h1, h2⟩ := h.fin i e1 hi
      refine ⟨u1, by rw [List.getElem?_append_left (by omega)]; exact h1, (h2.keep (fun b hb => hb.turn (by decide) ht)).keep fun b hb => hb.turn (by decide) ht2⟩
    · have hlt := (List.getElem?_eq_some_iff.1 hi).1
      rw [List.length_append] at hlt
      have h1 : ([e] : List (List (List UInt8))).length = 1 := rfl
      obtain rfl : i = L.length := by omega
      rw [List.getElem?_append_right (Nat.le_refl _)] at hi
      simp at hi
      subst hi
      exact ⟨u, by rw [List.getElem?_append_right (by omega), hlen]; simp, (hu.keep (fun b hb => hb.turn (by decide) ht)).keep fun b hb => hb.turn (by decide) ht2⟩
theorem RdAt.mid {w wx w1 : World} {tag : List UInt8} {vr vE : Value} {rest : List UInt8} {us : List Value} {L : List (List (List UInt8))} (h : RdAt w wx tag vr vE rest us L) (hg : wx.grownBy w1 vE.ownBlock) :
    w1.cell? ⟨w.heap.size + 1, 1, none⟩ = some vE ∧ w1.frozen? ⟨w.heap.size + 1, 1, none⟩ = false := by
  have ht := TurnsTy.of_grown hg (own_ty h.row)
  have hbox := (ht.block _ _ _ _ h.box (by decide)).trans h.box
  refine ⟨?_, ?_⟩ <;> simp [World.cell?, World.frozen?, hbox]
theorem elem_news (W : World) (ao : Option Addr) (n c : Nat) (t : TypeId) : ∀ j u, ([Value.slice ao n c] : List Value)[j]? = some u → (W.alloc (.cells #[.slice ao n c] t)).cell? ((⟨W.heap.size, 0, none⟩ : Addr).add j) = some u := by
  intro j u hj
  match j with
  | 0 =>
    simp at hj
    rw [← hj, Addr.add_lit]
    simp [go_sem]
  | j + 1 => simp at hj
theorem RdAt.done {w wx : World} {tag : List UInt8} {vr vE : Value} {rest : List UInt8} {us : List Value} {L : List (List (List UInt8))} (h : RdAt w wx tag vr vE rest us L) : ElemsIn (NotSeg wx) wx vE L := by
  refine ⟨us, (CellsIn.own h.row).keep fun b hb => ?_, fun i e hi => ?_⟩
  · obtain ⟨c1, f1, h1⟩ := own_ty h.row b hb.2.2
    exact ⟨⟨c1, _, f1, h1, by decide⟩, rfl⟩
  · obtain ⟨u, h1, h2⟩ := h.fin i e hi
    exact ⟨u, h1, h2.keep fun b hb => by
      obtain ⟨cs, fz, hc⟩ := hb
      exact ⟨⟨cs, _, fz, hc, by decide⟩, rfl⟩⟩
/-- The elements that are still to be read. -/
def elsM (m : Bool) (k : Nat) (t : List UInt8) : List (List (List UInt8)) := if m = true then elsF k t else []
theorem elsM_step (k : Nat) (t : List UInt8) : elsM true (k + 1) t = elemF (cutF 43 t).1 :: elsM (cutF 43 t).2.2 k (cutF 43 t).2.1 := rfl
theorem elsM_none (k : Nat) (t : List UInt8) : elsM false k t = [] := rfl
theorem elsM_full (m : Bool) (t : List UInt8) : elsM m 0 t = [] := by cases m <;> rfl
theorem readL_tag_len (b : List UInt8) (h : b.length ≤ 1000000000) : (readL b).tag.length ≤ 1000000000 := Nat.le_trans (cutF_len 43 b).1 h

set_option maxRecDepth 100000 in
set_option maxHeartbeats 1600000 in
theorem segRead_any (v : Value) (b : List UInt8) (w : World) (h : BytesIn (Has_ w) w v b) (hl : b.length ≤ 1000000000) :
    Calls Tryd.prog 79 #[v] w fun e w' => ∃ x, e = .returned (.agg #[strV (readL b).tag, x]) ∧ ElemsIn (NotSeg w') w' x (readL b).els ∧ Below w.heap.size w w' := by
  obtain ⟨ao, cap, rfl, _⟩ := h.form
  have hB0 : Below w.heap.size w (w.alloc (.cells #[.string ⟨#[]⟩, .slice none 0 0] 49)) := (Below.refl _ _).alloc (Nat.le_refl _) _
  have hres : (w.alloc (.cells #[.string ⟨#[]⟩, .slice none 0 0] 49)).heap[w.heap.size]? = some (.cells #[.string ⟨#[]⟩, .slice none 0 0] 49 (0, 0)) := by
    show (w.heap.push _)[w.heap.size]? = some _
    simp
  have hsz : (w.alloc (.cells #[.string ⟨#[]⟩, .slice none 0 0] 49)).heap.size = w.heap.size + 1 := by simp
  have hI1 : BytesIn (Has_ w) (w.alloc (.cells #[.string ⟨#[]⟩, .slice none 0 0] 49)) (.slice ao b.length cap) b := CellsIn.keep h fun k hk => ⟨hk, hB0.block k hk⟩
  have HC := Lib.hid (segCut_any (Has_ w) _ b 43 _ hI1 (by decide) hl)
  obtain ⟨hc1, hc2⟩ := cutF_len 43 b
  have H43 : byteV 43 = .int .u8 43 := rfl
  rw [H43] at HC
  obtain ⟨RT, hRT⟩ : ∃ RT, RT = (readL b).tag := ⟨_, rfl⟩
  obtain ⟨RE, hRE⟩ : ∃ RE, RE = (readL b).els := ⟨_, rfl⟩
  have hT : RT = (cutF 43 b).1 := hRT
  have hE : Hid (RE = [] ++ elsM (cutF 43 b).2.2 (100 - ([] : List (List (List UInt8))).length) (cutF 43 b).2.1) := Lib.hid hRE
  rw [← hRT, ← hRE]
  clear hRT hRE H43
  rw [← hT] at HC hc1
  generalize (cutF 43 b).2.1 = C2 at *
  generalize (cutF 43 b).2.2 = C3 at *
  clear hT h hI1
  go_enter Tryd.func79, Tryd.ntmps79
  go_wp2_with fail
  generalize w.alloc (.cells #[.string ⟨#[]⟩, .slice none 0 0] 49) = W at *
  refine HC.out.mono ?_
  rintro e w1 ⟨⟨u1, u2, rfl, hu1, hu2⟩, k, rfl⟩
  have hbk : Below W.heap.size W (W.drewN k) := below_drewN (Below.refl _ _) k
  have hu1 : BytesIn (Has_ w) (W.drewN k) u1 RT := hu1
  have hu2 : BytesIn (Has_ w) (W.drewN k) u2 C2 := hu2
  have hB1 := hB0.trans (hbk.mono hB0.size)
  have hres1 : (W.drewN k).heap[w.heap.size]? = some (.cells #[.string ⟨#[]⟩, .slice none 0 0] 49 (0, 0)) := hres
  have hsz1 : (W.drewN k).heap.size = w.heap.size + 1 := hsz
  clear HC hbk hB0 hres hsz
  generalize W.drewN k = W1 at *
  have hcv := run_text_of_cells (P := Tryd.prog) W1 32 9 5 u1 _ Tryd.underlying32 Tryd.underlying5 Tryd.underlying9 hu1
  unfold strV at hcv
  have HA0 := Lib.hid (show RdAt w (W1.alloc (.cells #[.string ⟨RT.toArray⟩, .slice none 0 0] 49)) RT u2 (.slice none 0 0) C2 [] [] from
    ⟨CellsIn.keep hu2 fun b hb => ⟨hb, ((Below.refl W1.heap.size W1).alloc (Nat.le_refl _) _).block b (by have hb2 : b < w.heap.size := hb; omega)⟩,
      (((Below.refl W1.heap.size W1).alloc (Nat.le_refl _) _).block _ (by omega)).trans hres1,
      by
        rw [← hsz1]
        show (W1.heap.push _)[W1.heap.size]? = some _
        simp,
      World.ownsRow_nil _ _ _ _, fun i e hi => by simp at hi, hB1.alloc (by omega) _⟩)
  clear hu1 hu2 hB1 hres1
  go_wp2_with fail
  clear hcv
  generalize W1.alloc (.cells #[.string ⟨RT.toArray⟩, .slice none 0 0] 49) = W2 at *
  go_loopw [4, 5] (fun v4 v5 wx => ∃ (u0 vE : Value) (m : Bool) (rest : List UInt8) (us : List Value) (L : List (List (List UInt8))), u0 = v4 ∧ v5 = .bool m ∧ L.length ≤ 100 ∧ rest.length ≤ 1000000000 ∧ Hid (RE = L ++ elsM m (100 - L.length) rest) ∧ Hid (RdAt w wx RT u0 vE rest us L)) (fun _ _ wx => 100 - cellLen (wx.cell? ⟨w.heap.size + 1, 1, none⟩))
  case atStart => exact ⟨_, _, C3, C2, [], [], rfl, rfl, by simp, by omega, hE, HA0⟩
  case round =>
    clear hE HA0 hsz1 hc1 hc2
    obtain ⟨u0, vE, m, rest, us, L, rfl, rfl, hLl, hrl, hF, HA⟩ := hrel
    obtain ⟨ro, rc, rfl, _⟩ := own_form HA.out.row
    obtain ⟨⟨c0, f0⟩, c1, f1⟩ := HA.out.cells
    by_cases hgo : m = true ∧ L.length < 100
    · obtain ⟨rfl, hlt⟩ := hgo
      have d1 : decide ((L.length : Int) < 100) = true := decide_eq_true (by omega)
      have hk : 100 - L.length = (100 - (L.length + 1)) + 1 := by omega
      have hF1 := hF.out
      rw [hk, elsM_step] at hF1
      obtain ⟨hc1, hc2⟩ := cutF_len 43 rest
      have HC := Lib.hid (segCut_any (Has_ w) u0 rest 43 wr HA.out.inp (by decide) hrl)
      have hF2 := Lib.hid (show RE = (L ++ [elemF (cutF 43 rest).1]) ++ elsM (cutF 43 rest).2.2 (100 - (L ++ [elemF (cutF 43 rest).1]).length) (cutF 43 rest).2.1 by
        rw [hF1, List.length_append]
        simp)
      generalize cutF 43 rest = C at *
      obtain ⟨C1, C2, C3⟩ := C
      dsimp only at *
      have H43 : byteV 43 = .int .u8 43 := rfl
      rw [H43] at HC
      clear hF hF1 hk H43 hLl
      go_wp2_with fail
      refine HC.out.mono ?_
      rintro e w1 ⟨⟨u1, u2, rfl, hu1, hu2⟩, k, rfl⟩
      have hbk : Below wr.heap.size wr (wr.drewN k).drew := (below_drewN (Below.refl _ _) k).drew
      have HA1 := Lib.hid (HA.out.keep hbk hu2)
      have HS := Lib.hid (fun w3 (hb : Below wr.heap.size wr w3) => segElement_any u1 C1 w3 (CellsIn.keep hu1 fun b hb1 => ⟨Nat.lt_of_lt_of_le hb1 (Nat.le_trans HA.out.below.size hb.size), hb.block b (Nat.lt_of_lt_of_le hb1 HA.out.below.size)⟩) (by omega))
      have HBk := Lib.hid hbk
      have cm : wr.cell? ⟨w.heap.size + 1, 1, none⟩ = some (.slice ro L.length rc) := c1
      obtain ⟨i1, hj, hy0, hy1, hy2⟩ := info_parts info_strs
      clear HC HA hu1 hu2 hbk c0 f0 c1 f1
      generalize wr.drewN k = w1 at *
      generalize hEl : elemF C1 = EE at *
      go_wp2_with fail
      obtain ⟨⟨c0, f0⟩, c1, f1⟩ := HA1.out.cells
      have cm2 := Lib.hid cm
      clear cm
      refine wp_region_noPanic ?_
      refine wp_region_held_drew (S := fun _ => True) (by kernel_rfl) trivial (fun hHeld => ?_)
      clear hHeld
      generalize w1.drew = W0 at *
      refine wpAnyH_take (i := 0) (v := ?_) rfl (by kernel_rfl) (by kernel_rfl) (by kernel_rfl) (fun _ _ _ h => h) (Or.inl ⟨by rfl, ?_⟩) trivial ?_
      rotate_left
      · intro wS hSw
        go_simp <;> with_reducible rfl
      try simp only [Act.put, List.getElem_toArray, List.getElem_cons_zero, List.setIfInBounds_toArray, List.set_cons_zero, List.set_cons_succ]
      refine wpAnyH_take (i := 2) (v := ?_) rfl (by kernel_rfl) (by kernel_rfl) (by kernel_rfl) (fun _ _ _ h => h) (Or.inl ⟨by rfl, ?_⟩) trivial ?_
      rotate_left
      · intro wS hSw
        go_simp <;> with_reducible rfl
      try simp only [Act.put, List.getElem_toArray, List.getElem_cons_succ, List.getElem_cons_zero, List.setIfInBounds_toArray, List.set_cons_zero, List.set_cons_succ]
      refine wpAnyH_ready (rs := [1, 3]) (by kernel_rfl) (by simp) ?_
      refine AllReadyH.cons rfl (fun K hK => ?_) (AllReadyH.cons rfl (fun K hK => ?_) AllReadyH.nil)
      · go_simp
        refine hK.out _ _ trivial (fun hHeld => ?_)
        clear hK K hHeld
        try simp only [Act.put, List.getElem_toArray, List.getElem_cons_succ, List.getElem_cons_zero, List.setIfInBounds_toArray, List.set_cons_zero, List.set_cons_succ]
        refine wpAnyH_ready (rs := [3]) (by kernel_rfl) (by simp) ?_
        refine AllReadyH.cons rfl (fun K hK => ?_) AllReadyH.nil
        go_simp
        refine (HS.out _ HBk.out).mono ?_
        rintro e w3 ⟨u3, rfl, hSt, hb3⟩
        obtain ⟨xo, xc, rfl, _⟩ := hSt.form
        have HA3 := Lib.hid (HA1.out.on hb3)
        have HT3 := Lib.hid hSt
        obtain ⟨⟨c0, f0⟩, c1, f1⟩ := HA3.out.cells
        clear HS hb3 hSt
        go_wp2_with fail
        refine hK.out _ _ trivial (fun hHeld => ?_)
        clear hK K hHeld
        try simp only [Act.put, List.getElem_toArray, List.getElem_cons_succ, List.getElem_cons_zero, List.setIfInBounds_toArray, List.set_cons_zero, List.set_cons_succ]
        refine wpAnyH_ready (rs := [4]) (by kernel_rfl) (by simp) ?_
        refine AllReadyH.cons rfl (fun K hK => ?_) AllReadyH.nil
        go_simp
        have HA4 := Lib.hid (HA3.out.on ((Below.refl w3.heap.size w3).alloc (Nat.le_refl _) (.cells #[.slice xo EE.length xc] 50)))
        have HT4 := Lib.hid (HT3.out.keep (w1 := w3.alloc (.cells #[.slice xo EE.length xc] 50)) fun b hb => hb.keep ((Below.refl w3.heap.size w3).alloc (Nat.le_refl _) _))
        obtain ⟨⟨c0, f0⟩, c1, f1⟩ := HA4.out.cells
        refine hK.out _ _ trivial (fun hHeld => ?_)
        clear hK K hHeld
        try simp only [Act.put, List.getElem_toArray, List.getElem_cons_succ, List.getElem_cons_zero, List.setIfInBounds_toArray, List.set_cons_zero, List.set_cons_succ]
        refine wpAnyH_ready (rs := [5]) (by kernel_rfl) (by simp) ?_
        refine AllReadyH.cons rfl (fun K hK => ?_) AllReadyH.nil
        have hnn := elem_news w3 xo EE.length xc 50
        refine step_append_own rfl (.tmp 31) (.tmp 34) 47 rfl w.heap.size 50 i1 _ 1 24 Tryd.underlying47 hj hy0 hy1 hy2 rfl (by decide) _ L.length us rfl HA4.out.row HA4.out.below.size (some ⟨w3.heap.size, 0, none⟩) 1 1 [.slice xo EE.length xc] rfl rfl (fun h => by cases h) (fun ad had => by cases had; exact hnn) (by intro u hu; simp at hu; rw [hu]; rfl) (by unfold maxLen; omega) (by omega) ?_
        intro v1 w6 own1 grow1
        obtain ⟨z1, z2⟩ := HA4.out.mid grow1
        have HP := Lib.hid (HA4.out.push HT4.out own1 grow1)
        obtain ⟨so, sc, rfl, _⟩ := own_form own1
        clear own1 grow1 hnn
        refine hK.out _ _ trivial (fun hHeld => ?_)
        clear hK K hHeld
        try simp only [Act.put, List.getElem_toArray, List.getElem_cons_succ, List.getElem_cons_zero, List.setIfInBounds_toArray, List.set_cons_zero, List.set_cons_succ]
        refine wpAnyH_take (i := 6) (v := ?_) rfl (by kernel_rfl) (by kernel_rfl) (by kernel_rfl) (fun _ _ _ h => h) (Or.inl ⟨by rfl, ?_⟩) trivial ?_
        rotate_left
        · intro wS hSw
          go_simp <;> with_reducible rfl
        try simp only [Act.put, List.getElem_toArray, List.getElem_cons_succ, List.getElem_cons_zero, List.setIfInBounds_toArray, List.set_cons_zero, List.set_cons_succ]
        refine wpAnyH_ready (rs := [7]) (by kernel_rfl) (by simp) ?_
        refine AllReadyH.cons rfl (fun K hK => ?_) AllReadyH.nil
        go_simp
        refine hK.out _ _ trivial (fun hHeld => ?_)
        clear hK K hHeld
        try simp only [Act.put, List.getElem_toArray, List.getElem_cons_succ, List.getElem_cons_zero, List.setIfInBounds_toArray, List.set_cons_zero, List.set_cons_succ]
        refine wpAnyH_done (by kernel_rfl) ?_ _
        refine NoPanic.normal ?_
        clear HA1 HA3 HA4 HT3 HT4 HBk
        generalize (w6.setCell ⟨w.heap.size + 1, 1, none⟩ (.slice so (L.length + 1) sc)) = W7 at *
        have hm7 := HP.out.cells.2.1
        go_wp2_with fail
        go_roundw
        case rel => exact ⟨_, _, C3, C2, _, L ++ [EE], rfl, rfl, by rw [List.length_append]; show L.length + 1 ≤ _; omega, by omega, hF2, HP⟩
        case measure => have cm := cm2.out; simp [cellLen, sliceLen, hm7, cm]; omega
      · go_simp
        refine (HS.out _ HBk.out).mono ?_
        rintro e w3 ⟨u3, rfl, hSt, hb3⟩
        obtain ⟨xo, xc, rfl, _⟩ := hSt.form
        have HA3 := Lib.hid (HA1.out.on hb3)
        have HT3 := Lib.hid hSt
        obtain ⟨⟨c0, f0⟩, c1, f1⟩ := HA3.out.cells
        clear HS hb3 hSt
        go_wp2_with fail
        refine hK.out _ _ trivial (fun hHeld => ?_)
        clear hK K hHeld
        try simp only [Act.put, List.getElem_toArray, List.getElem_cons_succ, List.getElem_cons_zero, List.setIfInBounds_toArray, List.set_cons_zero, List.set_cons_succ]
        refine wpAnyH_ready (rs := [1, 4]) (by kernel_rfl) (by simp) ?_
        refine AllReadyH.cons rfl (fun K hK => ?_) (AllReadyH.cons rfl (fun K hK => ?_) AllReadyH.nil)
        · go_simp
          refine hK.out _ _ trivial (fun hHeld => ?_)
          clear hK K hHeld
          try simp only [Act.put, List.getElem_toArray, List.getElem_cons_succ, List.getElem_cons_zero, List.setIfInBounds_toArray, List.set_cons_zero, List.set_cons_succ]
          refine wpAnyH_ready (rs := [4]) (by kernel_rfl) (by simp) ?_
          refine AllReadyH.cons rfl (fun K hK => ?_) AllReadyH.nil
          go_simp
          have HA4 := Lib.hid (HA3.out.on ((Below.refl w3.heap.size w3).alloc (Nat.le_refl _) (.cells #[.slice xo EE.length xc] 50)))
          have HT4 := Lib.hid (HT3.out.keep (w1 := w3.alloc (.cells #[.slice xo EE.length xc] 50)) fun b hb => hb.keep ((Below.refl w3.heap.size w3).alloc (Nat.le_refl _) _))
          obtain ⟨⟨c0, f0⟩, c1, f1⟩ := HA4.out.cells
          refine hK.out _ _ trivial (fun hHeld => ?_)
          clear hK K hHeld
          try simp only [Act.put, List.getElem_toArray, List.getElem_cons_succ, List.getElem_cons_zero, List.setIfInBounds_toArray, List.set_cons_zero, List.set_cons_succ]
          refine wpAnyH_ready (rs := [5]) (by kernel_rfl) (by simp) ?_
          refine AllReadyH.cons rfl (fun K hK => ?_) AllReadyH.nil
          have hnn := elem_news w3 xo EE.length xc 50
          refine step_append_own rfl (.tmp 31) (.tmp 34) 47 rfl w.heap.size 50 i1 _ 1 24 Tryd.underlying47 hj hy0 hy1 hy2 rfl (by decide) _ L.length us rfl HA4.out.row HA4.out.below.size (some ⟨w3.heap.size, 0, none⟩) 1 1 [.slice xo EE.length xc] rfl rfl (fun h => by cases h) (fun ad had => by cases had; exact hnn) (by intro u hu; simp at hu; rw [hu]; rfl) (by unfold maxLen; omega) (by omega) ?_
          intro v1 w6 own1 grow1
          obtain ⟨z1, z2⟩ := HA4.out.mid grow1
          have HP := Lib.hid (HA4.out.push HT4.out own1 grow1)
          obtain ⟨so, sc, rfl, _⟩ := own_form own1
          clear own1 grow1 hnn
          refine hK.out _ _ trivial (fun hHeld => ?_)
          clear hK K hHeld
          try simp only [Act.put, List.getElem_toArray, List.getElem_cons_succ, List.getElem_cons_zero, List.setIfInBounds_toArray, List.set_cons_zero, List.set_cons_succ]
          refine wpAnyH_take (i := 6) (v := ?_) rfl (by kernel_rfl) (by kernel_rfl) (by kernel_rfl) (fun _ _ _ h => h) (Or.inl ⟨by rfl, ?_⟩) trivial ?_
          rotate_left
          · intro wS hSw
            go_simp <;> with_reducible rfl
          try simp only [Act.put, List.getElem_toArray, List.getElem_cons_succ, List.getElem_cons_zero, List.setIfInBounds_toArray, List.set_cons_zero, List.set_cons_succ]
          refine wpAnyH_ready (rs := [7]) (by kernel_rfl) (by simp) ?_
          refine AllReadyH.cons rfl (fun K hK => ?_) AllReadyH.nil
          go_simp
          refine hK.out _ _ trivial (fun hHeld => ?_)
          clear hK K hHeld
          try simp only [Act.put, List.getElem_toArray, List.getElem_cons_succ, List.getElem_cons_zero, List.setIfInBounds_toArray, List.set_cons_zero, List.set_cons_succ]
          refine wpAnyH_done (by kernel_rfl) ?_ _
          refine NoPanic.normal ?_
          clear HA1 HA3 HA4 HT3 HT4 HBk
          generalize (w6.setCell ⟨w.heap.size + 1, 1, none⟩ (.slice so (L.length + 1) sc)) = W7 at *
          have hm7 := HP.out.cells.2.1
          go_wp2_with fail
          go_roundw
          case rel => exact ⟨_, _, C3, C2, _, L ++ [EE], rfl, rfl, by rw [List.length_append]; show L.length + 1 ≤ _; omega, by omega, hF2, HP⟩
          case measure => have cm := cm2.out; simp [cellLen, sliceLen, hm7, cm]; omega
        · go_simp
          have HA4 := Lib.hid (HA3.out.on ((Below.refl w3.heap.size w3).alloc (Nat.le_refl _) (.cells #[.slice xo EE.length xc] 50)))
          have HT4 := Lib.hid (HT3.out.keep (w1 := w3.alloc (.cells #[.slice xo EE.length xc] 50)) fun b hb => hb.keep ((Below.refl w3.heap.size w3).alloc (Nat.le_refl _) _))
          obtain ⟨⟨c0, f0⟩, c1, f1⟩ := HA4.out.cells
          refine hK.out _ _ trivial (fun hHeld => ?_)
          clear hK K hHeld
          try simp only [Act.put, List.getElem_toArray, List.getElem_cons_succ, List.getElem_cons_zero, List.setIfInBounds_toArray, List.set_cons_zero, List.set_cons_succ]
          refine wpAnyH_ready (rs := [1]) (by kernel_rfl) (by simp) ?_
          refine AllReadyH.cons rfl (fun K hK => ?_) AllReadyH.nil
          go_simp
          refine hK.out _ _ trivial (fun hHeld => ?_)
          clear hK K hHeld
          try simp only [Act.put, List.getElem_toArray, List.getElem_cons_succ, List.getElem_cons_zero, List.setIfInBounds_toArray, List.set_cons_zero, List.set_cons_succ]
          refine wpAnyH_ready (rs := [5]) (by kernel_rfl) (by simp) ?_
          refine AllReadyH.cons rfl (fun K hK => ?_) AllReadyH.nil
          have hnn := elem_news w3 xo EE.length xc 50
          refine step_append_own rfl (.tmp 31) (.tmp 34) 47 rfl w.heap.size 50 i1 _ 1 24 Tryd.underlying47 hj hy0 hy1 hy2 rfl (by decide) _ L.length us rfl HA4.out.row HA4.out.below.size (some ⟨w3.heap.size, 0, none⟩) 1 1 [.slice xo EE.length xc] rfl rfl (fun h => by cases h) (fun ad had => by cases had; exact hnn) (by intro u hu; simp at hu; rw [hu]; rfl) (by unfold maxLen; omega) (by omega) ?_
          intro v1 w6 own1 grow1
          obtain ⟨z1, z2⟩ := HA4.out.mid grow1
          have HP := Lib.hid (HA4.out.push HT4.out own1 grow1)
          obtain ⟨so, sc, rfl, _⟩ := own_form own1
          clear own1 grow1 hnn
          refine hK.out _ _ trivial (fun hHeld => ?_)
          clear hK K hHeld
          try simp only [Act.put, List.getElem_toArray, List.getElem_cons_succ, List.getElem_cons_zero, List.setIfInBounds_toArray, List.set_cons_zero, List.set_cons_succ]
          refine wpAnyH_take (i := 6) (v := ?_) rfl (by kernel_rfl) (by kernel_rfl) (by kernel_rfl) (fun _ _ _ h => h) (Or.inl ⟨by rfl, ?_⟩) trivial ?_
          rotate_left
          · intro wS hSw
            go_simp <;> with_reducible rfl
          try simp only [Act.put, List.getElem_toArray, List.getElem_cons_succ, List.getElem_cons_zero, List.setIfInBounds_toArray, List.set_cons_zero, List.set_cons_succ]
          refine wpAnyH_ready (rs := [7]) (by kernel_rfl) (by simp) ?_
          refine AllReadyH.cons rfl (fun K hK => ?_) AllReadyH.nil
          go_simp
          refine hK.out _ _ trivial (fun hHeld => ?_)
          clear hK K hHeld
          try simp only [Act.put, List.getElem_toArray, List.getElem_cons_succ, List.getElem_cons_zero, List.setIfInBounds_toArray, List.set_cons_zero, List.set_cons_succ]
          refine wpAnyH_done (by kernel_rfl) ?_ _
          refine NoPanic.normal ?_
          clear HA1 HA3 HA4 HT3 HT4 HBk
          generalize (w6.setCell ⟨w.heap.size + 1, 1, none⟩ (.slice so (L.length + 1) sc)) = W7 at *
          have hm7 := HP.out.cells.2.1
          go_wp2_with fail
          go_roundw
          case rel => exact ⟨_, _, C3, C2, _, L ++ [EE], rfl, rfl, by rw [List.length_append]; show L.length + 1 ≤ _; omega, by omega, hF2, HP⟩
          case measure => have cm := cm2.out; simp [cellLen, sliceLen, hm7, cm]; omega
    · have hR : RE = L := by
        rw [hF.out]
        cases m with
        | false => rw [elsM_none, List.append_nil]
        | true =>
          rw [show 100 - L.length = 0 by have : ¬ L.length < 100 := fun h => hgo ⟨rfl, h⟩; omega, elsM_full, List.append_nil]
      have d1 : m = true → decide ((L.length : Int) < 100) = false := fun e => decide_eq_false (by have : ¬ L.length < 100 := fun h => hgo ⟨e, h⟩; omega)
      obtain ⟨⟨r0, s0⟩, r1, s1⟩ := HA.out.resCells
      clear hF hgo
      subst hR
      have hEl := Lib.hid HA.out.done
      have hAb := Lib.hid HA.out
      have hm : m = false ∨ (m = true ∧ decide ((RE.length : Int) < 100) = false) := by
        cases m with
        | false => exact .inl rfl
        | true => exact .inr ⟨rfl, d1 rfl⟩
      clear d1 HA
      rcases hm with rfl | ⟨rfl, d2⟩
      all_goals
        go_wp2_with fail
        obtain ⟨g0, g1⟩ := setTwo r0 r1 (.string ⟨RT.toArray⟩) (.slice ro RE.length rc)
        have hfin := hEl.out.setTwo hAb.out.res (.string ⟨RT.toArray⟩) (.slice ro RE.length rc)
        have hbel : Below w.heap.size w ((wr.setCell ⟨w.heap.size, 0, none⟩ (.string ⟨RT.toArray⟩)).setCell ⟨w.heap.size, 1, none⟩ (.slice ro RE.length rc)) := (hAb.out.below.setCell (Nat.le_refl _) _).setCell (Nat.le_refl _) _
        generalize (wr.setCell ⟨w.heap.size, 0, none⟩ (.string ⟨RT.toArray⟩)).setCell ⟨w.heap.size, 1, none⟩ (.slice ro RE.length rc) = W9 at *
        simp [bodyPost, results, Tryd.results79, go_sem, g0, g1]
        exact ⟨_, ⟨rfl, rfl⟩, hfin, hbel⟩
end Go.Proofs.YtepkihoakagidaaDoor
