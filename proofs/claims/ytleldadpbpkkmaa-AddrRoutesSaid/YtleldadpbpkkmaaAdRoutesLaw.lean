/- AddrRoutes: a route ahead of a path's mailbox tells nothing. -/
import Derived.Test.YtleldadpbpkkmaaAdBackLaw
import Derived.SliceStrings
namespace Go.Proofs.Ytleldadpbpkkmaa
open Go.Shelf Go.ChangeShapes Go.WideShapes Go.ChangeAt Go.RowKit
set_option linter.unusedVariables false
set_option linter.unusedSimpArgs false

/-- hops as they are written -/
def rtW : List (List Int) → List Int
  | [] => []
  | d :: ds => 64 :: d ++ (if ds = [] then [] else 44 :: rtW ds)
theorem rtW_snoc (x : List Int) : ∀ ds : List (List Int), rtW (ds ++ [x]) = (if ds = [] then [] else rtW ds ++ [44]) ++ 64 :: x
  | [] => by simp [rtW]
  | d :: ds => by
    have ih := rtW_snoc x ds
    rw [List.cons_append, rtW, if_neg (by simp), ih]
    by_cases h : ds = []
    · subst h; simp [rtW]
    · rw [if_neg h, if_neg (by simp), rtW, if_neg h]; simp
theorem domOK_lab {d : List Int} (h : domOK d = true) : labelsB d = true ∧ d.length ≤ 64 := by unfold domOK at h; simpa using h
theorem hopN_app {d r : List Int} (h : domOK d = true) (hr : Stops (fun c => laB c || c == 46) r) : hopN (64 :: d ++ r) = some (d.length + 1) := by
  unfold hopN
  have hh : (64 :: d ++ r).head? = some 64 := rfl
  rw [if_pos hh]
  show (domN (d ++ r)).map _ = _
  rw [domN_app (domOK_lab h).1 hr]; rfl
theorem hops_app (r : List Int) : ∀ (ds : List (List Int)) (k : Nat), ds ≠ [] → (∀ d ∈ ds, domOK d = true) → ds.length < k → hopsF k (rtW ds ++ 58 :: r) false = some ((rtW ds).length, false)
  | [], _, h, _, _ => absurd rfl h
  | d :: ds, k, _, hall, hk => by
    obtain ⟨k, rfl⟩ : ∃ m, k = m + 1 := ⟨k - 1, by omega⟩
    have hd := hall d (by simp)
    have h64 : decide (64 < d.length + 1 - 1) = false := decide_eq_false (by have := (domOK_lab hd).2; omega)
    by_cases h : ds = []
    · subst h
      have e : rtW [d] ++ 58 :: r = 64 :: d ++ 58 :: r := by simp [rtW]
      have hn := hopN_app (r := 58 :: r) hd (Or.inr ⟨58, r, rfl, by decide⟩)
      have hi : ¬ (64 :: d ++ 58 :: r)[d.length + 1]? = some 44 := by simp
      rw [e]
      simp only [hopsF, hn]
      rw [if_neg hi, h64]
      simp [rtW]
    · have e : rtW (d :: ds) ++ 58 :: r = 64 :: d ++ 44 :: (rtW ds ++ 58 :: r) := by rw [rtW, if_neg h]; simp
      have hn := hopN_app (r := 44 :: (rtW ds ++ 58 :: r)) hd (Or.inr ⟨44, _, rfl, by decide⟩)
      have hi : (64 :: d ++ 44 :: (rtW ds ++ 58 :: r))[d.length + 1]? = some 44 := by simp
      have hdr : (64 :: d ++ 44 :: (rtW ds ++ 58 :: r)).drop (d.length + 1 + 1) = rtW ds ++ 58 :: r := by
        rw [← List.drop_drop]; simp
      have ih := hops_app r ds k h (fun d' hd' => hall d' (by simp [hd'])) (by simp at hk; omega)
      rw [e]
      simp only [hopsF, hn]
      rw [if_pos hi, hdr, h64]
      simp only [Bool.or_self]
      rw [ih, rtW, if_neg h]
      simp
      omega
theorem rtW_len : ∀ ds : List (List Int), ds.length ≤ (rtW ds).length
  | [] => by simp
  | d :: ds => by
    have := rtW_len ds
    rw [rtW]
    by_cases h : ds = []
    · subst h; simp
    · rw [if_neg h]; simp; omega
theorem rtW_head {ds : List (List Int)} (h : ds ≠ []) : ∃ t, rtW ds = 64 :: t := by
  cases ds with
  | nil => exact absurd rfl h
  | cons d ds => exact ⟨_, rfl⟩
theorem rtL_app {ds : List (List Int)} (r : List Int) (h : ds ≠ []) (hall : ∀ d ∈ ds, domOK d = true) : rtL ((rtW ds ++ [58]) ++ r) = some ((rtW ds ++ [58]).length, false) := by
  have e : (rtW ds ++ [58]) ++ r = rtW ds ++ 58 :: r := by simp
  obtain ⟨t, ht⟩ := rtW_head h
  unfold rtL
  rw [e, if_pos (by rw [ht]; rfl), hops_app r ds _ h hall (by have := rtW_len ds; simp; omega)]
  simp
theorem read_route {l d : List Int} {ds : List (List Int)} (behind : List Int) (hg : goodB l d = true) (h : ds ≠ []) (hall : ∀ d ∈ ds, domOK d = true) :
    readL ((60 :: rtW ds) ++ [58] ++ boxL l d ++ (62 :: behind)) true = (l, d, (60 :: rtW ds).length + 1 + (boxL l d).length + 1, 0) := by
  have e : (60 :: rtW ds) ++ [58] ++ boxL l d ++ (62 :: behind) = 60 :: (rtW ds ++ [58]) ++ (boxL l d ++ 62 :: behind) := by simp
  have hp := ptL_app (rt := rtW ds ++ [58]) behind hg (rtL_app _ h hall)
  obtain ⟨t, ht⟩ := rtW_head h
  rw [readL_path, pathR_pt (by rw [ht]; simp), e, hp]
  simp
  omega

/-- a row of texts that came in -/
def SRow (w : World) (a : Option Addr) (ss : List ByteArray) : Prop := (∀ s ∈ ss, s.size ≤ maxLen) ∧ (ss = [] ∨ ∃ b o, a = some ⟨b, o, none⟩ ∧ ∀ i, i < ss.length → w.cell? ⟨b, o + i, none⟩ = some (.string (ss.getD i ByteArray.empty)))
theorem SRow.old {w w' : World} {a : Option Addr} {ss : List ByteArray} (hm : Below w.heap.size w w') (h : SRow w a ss) : SRow w' a ss := by
  refine ⟨h.1, ?_⟩
  rcases h.2 with h1 | ⟨b, o, rfl, hc⟩
  · exact .inl h1
  · exact .inr ⟨b, o, rfl, fun i hi => (hm.cell (World.block_lt_of_cell? w _ (hc i hi))).trans (hc i hi)⟩
section
variable {H : Type} {enc : TypeId × Value → H}
theorem open_ss {W : World} {a : Option Addr} {len cap fuel : Nat} {x : DataW H × List MemPlace} (hf : DataW.trod enc Try.prog W 0 (fun _ => true) true fuel 41 [.slice a len cap] = some x) :
    ∃ l, SRow W a l ∧ len = l.length ∧ l.length ≤ 9223372036854775807 := by
  rcases open_strings Try.underlying41 Try.underlying9 (by kernel_rfl) hf with ⟨hcs, _⟩ | ⟨a', len', cap', ss, hcs, _, hl, hm, hz, _, hcell, hws⟩
  · simp at hcs
    obtain ⟨rfl, rfl, rfl⟩ := hcs
    exact ⟨[], ⟨by simp, .inl rfl⟩, rfl, by simp⟩
  · simp at hcs
    obtain ⟨rfl, rfl, rfl⟩ := hcs
    have hmx : maxLen = 9223372036854775807 := rfl
    have hz' : ss.length = cap := by simpa using hz
    have hlen : (ss.take len).length = len := by simp; omega
    refine ⟨ss.take len, ⟨fun s hs => hws s (List.mem_of_mem_take hs), ?_⟩, hlen.symm, by omega⟩
    by_cases h0 : len = 0
    · left; subst h0; simp
    · right
      obtain ⟨b, o, spot⟩ := a'
      have hc := hcell 0 (by omega)
      have hspot : spot = none := by simpa [Addr.add] using World.cell?_spot hc
      subst hspot
      refine ⟨b, o, rfl, fun i hi => ?_⟩
      rw [hlen] at hi
      have := hcell i (by omega)
      rw [Addr.add_lit] at this
      rw [this]
      simp [List.getD, List.getElem?_take, hi]
end

theorem str_comma : ({ data := #[44] } : ByteArray) = strOfNums [44] := by decide +kernel
theorem str_colon : ({ data := #[58] } : ByteArray) = strOfNums [58] := by decide +kernel
theorem str_size : ({ data := #[62, 32, 83, 73, 90, 69, 61, 49] } : ByteArray) = strOfNums (62 :: [32, 83, 73, 90, 69, 61, 49]) := by decide +kernel
/-- the route's text after k domains -/
def rtS (ss : List ByteArray) (k : Nat) : ByteArray := strOfNums (60 :: rtW ((ss.take k).map nums))
theorem take_succ_ss (ss : List ByteArray) (k : Nat) (h : k < ss.length) : (ss.take (k + 1)).map nums = (ss.take k).map nums ++ [nums (ss.getD k ByteArray.empty)] := by
  rw [List.take_succ_eq_append_getElem h, List.map_append]; simp [List.getD, h]
theorem rtS_step {ss : List ByteArray} {k : Nat} (h : k < ss.length) : rtS ss (k + 1) = (if k = 0 then rtS ss k else rtS ss k ++ { data := #[44] }) ++ { data := #[64] } ++ ss.getD k ByteArray.empty := by
  have e : ss.getD k ByteArray.empty = strOfNums (nums (ss.getD k ByteArray.empty)) := (strOfNums_nums _).symm
  unfold rtS
  rw [take_succ_ss ss k h, rtW_snoc]
  conv => rhs; rw [e]
  by_cases h0 : k = 0
  · subst h0
    simp only [List.take_zero, List.map_nil, if_true]
    rw [str_at_sign, strOfNums_append, strOfNums_append]; simp [rtW]
  · have hne : ¬ (ss.take k).map nums = [] := by
      intro e
      have := congrArg List.length e
      rw [List.length_map, List.length_take] at this
      simp only [List.length_nil] at this
      omega
    rw [if_neg h0, if_neg hne, str_comma, str_at_sign, strOfNums_append, strOfNums_append, strOfNums_append]; simp
/-- are the first k domains right? -/
def okK (ss : List ByteArray) (k : Nat) : Bool := (ss.take k).all fun s => domOK (nums s)
theorem okK_step {ss : List ByteArray} {k : Nat} (h : k < ss.length) : okK ss (k + 1) = (okK ss k && domOK (nums (ss.getD k ByteArray.empty))) := by
  unfold okK
  rw [List.take_succ_eq_append_getElem h, List.all_append]; simp [List.getD, h]

theorem rtW_bytes' : ∀ ss : List ByteArray, Bytes (rtW (ss.map nums))
  | [] => by intro x hx; simp [rtW] at hx
  | s :: ss => by
    intro x hx
    rw [List.map_cons, rtW] at hx
    rcases List.mem_append.1 hx with hx | hx
    · rcases List.mem_cons.1 hx with rfl | hx
      · omega
      · exact nums_bytes s x hx
    · split at hx
      · simp at hx
      · rcases List.mem_cons.1 hx with rfl | hx
        · omega
        · exact rtW_bytes' ss x hx
theorem rtW_bytes (ss : List ByteArray) : Bytes (60 :: rtW (ss.map nums)) := by
  intro x hx
  rcases List.mem_cons.1 hx with rfl | hx
  · omega
  · exact rtW_bytes' ss x hx
/-- on the way through the route -/
structure RtW (ss : List ByteArray) (w wr : World) (s : ByteArray) (good : Bool) (k : Nat) : Prop where
  eq : s = rtS ss k
  sz : s.size ≤ 1 + 102 * k
  ok : good = okK ss k
  mod : Mod [] w wr

set_option maxRecDepth 100000 in
set_option maxHeartbeats 8000000 in
theorem routes_any (a d : ByteArray) (ra : Option Addr) (n cap : Nat) (ss : List ByteArray) (w : World) (wa : a.size ≤ maxLen) (wd : d.size ≤ maxLen) (hss : SRow w ra ss) (hn : n = ss.length) (hl : ss.length ≤ 9223372036854775807) :
    Calls Try.prog 7 #[.agg (adCs a d), .slice ra n cap] w fun e w' => e = .returned (.bool true) ∧ Below w.heap.size w w' := by
  unfold maxLen at wa wd
  subst hn
  have hb0 : (w.alloc (.cells (adCs a d) 24)).heap[w.heap.size]? = some (.cells (adCs a d) 24 (0, 0)) := heap_alloc_new w _
  have hm0 : Mod [] w (w.alloc (.cells (adCs a d) 24)) := (Mod.refl [] w).alloc _
  have HN := Lib.hid hb0
  have HM := Lib.hid hm0
  have HSR := Lib.hid hss
  have HLa := Lib.hid (nums_length a)
  have HLd := Lib.hid (nums_length d)
  clear hb0 hm0 hss
  go_enter Try.func7, Try.ntmps7
  go_wp2_with fail
  generalize w.alloc (.cells (adCs a d) 24) = w0 at *
  generalize hg : w.heap.size = g0 at *
  have HG := Lib.hid hg
  clear hg
  refine (awake_any w0).mono ?_
  rintro e w1 ⟨rfl, hb1⟩
  have HN1 := Lib.hid (below_blk hb1 HN.out)
  have HM1 := Lib.hid (HM.out.trans (Mod.ofBelow hb1))
  have HSR1 : Hid (SRow w1 ra ss) := Lib.hid (HSR.out.old (by rw [HG.out]; exact HM1.out.toBelow (by have := HG.out; omega) (by simp)))
  have k0 := blk_cell HN1.out 0
  have k1 := blk_cell HN1.out 1
  clear hb1
  by_cases ha : a.size ≤ 100
  case neg =>
    have ha' : (100 : Int) < (a.size : Int) := by omega
    go_wp2_with fail
    go_ret
    exact ⟨rfl, HM1.out.toBelow (by have := HG.out; omega) (by simp)⟩
  by_cases hd : d.size ≤ 100
  case neg =>
    have hd' : (100 : Int) < (d.size : Int) := by omega
    have ha' : (a.size : Int) ≤ 100 := by omega
    go_wp2_with fail
    go_ret
    exact ⟨rfl, HM1.out.toBelow (by have := HG.out; omega) (by simp)⟩
  have ha' : (a.size : Int) ≤ 100 := by omega
  have hd' : (d.size : Int) ≤ 100 := by omega
  by_cases hc : ss.length ≤ 10
  case neg =>
    have hc' : (10 : Int) < (ss.length : Int) := by omega
    go_wp2_with fail
    go_ret
    exact ⟨rfl, HM1.out.toBelow (by have := HG.out; omega) (by simp)⟩
  have hc' : (ss.length : Int) ≤ 10 := by omega
  by_cases hz : ss.length = 0
  case pos =>
    have hz' : ((ss.length : Int) == 0) = true := by simp [hz]
    have HZ := Lib.hid hz
    clear hz
    go_wp2_with fail
    go_ret
    exact ⟨rfl, HM1.out.toBelow (by have := HG.out; omega) (by simp)⟩
  have hz' : ((ss.length : Int) == 0) = false := by simp; intro e; exact hz (by rw [e]; rfl)
  go_wp2_with fail
  have hpos : 0 < ss.length := by omega
  obtain ⟨b, o, rfl⟩ : ∃ b o, ra = some ⟨b, o, none⟩ := by
    rcases HSR1.out.2 with h | ⟨b, o, h, _⟩
    · rw [h] at hpos; simp at hpos
    · exact ⟨b, o, h⟩
  have HCell : Hid (∀ wr, Mod [] w1 wr → ∀ k, k < ss.length → wr.cell? ⟨b, o + k, none⟩ = some (.string (ss.getD k ByteArray.empty))) := Lib.hid fun wr hm k hk => by
    rcases HSR1.out.2 with h | ⟨b', o', h, hcl⟩
    · rw [h] at hpos; simp at hpos
    · injection h with h
      injection h with h1 h2
      subst h1
      subst h2
      exact hm.cell (hcl k hk) (by simp)
  have HSz : Hid (∀ k, k < ss.length → (ss.getD k ByteArray.empty).size ≤ 9223372036854775807) := Lib.hid fun k hk => by
    have := HSR1.out.1 (ss.getD k ByteArray.empty) (by simp [List.getD, hk])
    simpa [maxLen] using this
  clear k0 k1 hz
  go_loopw [5, 6, 7] (fun vs vg vi wr => ∃ (k : Nat) (s : ByteArray) (good : Bool), vs = .string s ∧ vg = .bool good ∧ vi = .int .i64 k ∧ k ≤ ss.length ∧ RtW ss w1 wr s good k) (fun _ _ vi _ => (ss.length - intOf vi).toNat)
  case atStart => exact ⟨0, _, _, rfl, rfl, rfl, Nat.zero_le _, ⟨by rw [str_lt]; simp [rtS, rtW], by decide, by simp [okK], Mod.refl _ _⟩⟩
  case round =>
    obtain ⟨k, s, good, rfl, rfl, rfl, hks, hr⟩ := hrel
    have HR := Lib.hid hr
    have hsz := hr.sz
    clear hr
    by_cases hlt : k < ss.length
    · have hcell := HCell.out wr HR.out.mod k hlt
      have htz := HSz.out k hlt
      have HStep := Lib.hid (rtS_step hlt)
      have HOk := Lib.hid (okK_step hlt)
      have HCellK : Hid (∀ wx, Mod [] w1 wx → wx.cell? ⟨b, o + k, none⟩ = some (.string (ss.getD k ByteArray.empty))) := Lib.hid fun wx hm => HCell.out wx hm k hlt
      generalize ss.getD k ByteArray.empty = t at *
      by_cases ht : t.size ≤ 100
      case neg =>
        have ht' : (100 : Int) < (t.size : Int) := by omega
        go_wp2_with fail
        go_ret
        exact ⟨rfl, (HM1.out.trans HR.out.mod).toBelow (by have := HG.out; omega) (by simp)⟩
      have ht' : (t.size : Int) ≤ 100 := by omega
      have hm0 : (if k = 0 then s else s ++ { data := #[44] } : ByteArray) = if k = 0 then s else s ++ { data := #[44] } := rfl
      have hadd1 := add_str s { data := #[44] } (by omega) (by decide)
      have hs1 : (s ++ { data := #[44] }).size ≤ 2 + 102 * k := by rw [ByteArray.size_append]; have : ({ data := #[44] } : ByteArray).size = 1 := rfl; omega
      have hnext : ∀ s1 : ByteArray, s1 = (if k = 0 then s else s ++ { data := #[44] }) → s1 ++ { data := #[64] } ++ t = rtS ss (k + 1) := fun s1 h1 => by rw [HStep.out, h1, ← HR.out.eq]
      have HNext := Lib.hid hnext
      generalize hsc : s ++ { data := #[44] } = sc at *
      have HSc := Lib.hid hsc
      clear hsc hm0 hnext
      have hadd2 := add_str s { data := #[64] } (by omega) (by decide)
      have hadd3 := add_str sc { data := #[64] } (by omega) (by decide)
      have hs2 : (s ++ { data := #[64] }).size ≤ 2 + 102 * k := by rw [ByteArray.size_append]; have : ({ data := #[64] } : ByteArray).size = 1 := rfl; omega
      have hs3 : (sc ++ { data := #[64] }).size ≤ 3 + 102 * k := by rw [ByteArray.size_append]; have : ({ data := #[64] } : ByteArray).size = 1 := rfl; omega
      generalize hsa : s ++ { data := #[64] } = sa at *
      have HSa := Lib.hid hsa
      clear hsa
      generalize hsb : sc ++ { data := #[64] } = sb at *
      have HSb := Lib.hid hsb
      clear hsb
      have hadd4 := add_str sa t (by omega) (by omega)
      have hadd5 := add_str sb t (by omega) (by omega)
      have hs4 : (sa ++ t).size ≤ 102 + 102 * k := by rw [ByteArray.size_append]; omega
      have hs5 : (sb ++ t).size ≤ 103 + 102 * k := by rw [ByteArray.size_append]; omega
      by_cases h0 : k = 0
      · have hk0 : ((k : Int) > 0) = False := by simp; omega
        have HK0 := Lib.hid h0
        have hki : (k : Int) ≤ 0 := by omega
        have HFin : Hid (sa ++ t = rtS ss (k + 1)) := Lib.hid (by have := HNext.out s (by rw [if_pos h0]); rw [HSa.out] at this; exact this)
        clear h0 hk0 hadd1 hadd3 hadd5 hs5 hs3
        cases good
        · go_wp2_with fail
          go_roundw
          case rel => exact ⟨k + 1, _, _, rfl, rfl, by go_num, by omega, ⟨HFin.out, by omega, by rw [HOk.out, ← HR.out.ok]; rfl, HR.out.mod⟩⟩
          case measure => simp [intOf]; omega
        · go_wp2_with fail
          refine (domainS_any t wr (by omega)).mono ?_
          rintro e w3 ⟨rfl, hb3⟩
          have HM3 := Lib.hid (HR.out.mod.trans (Mod.ofBelow hb3))
          have hcell3 := HCellK.out w3 HM3.out
          clear hb3 hcell
          generalize hdo : domOK (nums t) = dk
          have HDo := Lib.hid hdo
          clear hdo
          go_wp2_with fail
          go_roundw
          case rel => exact ⟨k + 1, _, _, rfl, rfl, by go_num, by omega, ⟨HFin.out, by omega, by rw [HOk.out, ← HR.out.ok, HDo.out]; rfl, HM3.out⟩⟩
          case measure => simp [intOf]; omega
      · have hki : (0 : Int) < (k : Int) := by omega
        have HFin : Hid (sb ++ t = rtS ss (k + 1)) := Lib.hid (by have := HNext.out sc (by rw [if_neg h0]); rw [HSb.out] at this; exact this)
        clear h0 hadd2 hadd4 hs4 hs2
        cases good
        · go_wp2_with fail
          go_roundw
          case rel => exact ⟨k + 1, _, _, rfl, rfl, by go_num, by omega, ⟨HFin.out, by omega, by rw [HOk.out, ← HR.out.ok]; rfl, HR.out.mod⟩⟩
          case measure => simp [intOf]; omega
        · go_wp2_with fail
          refine (domainS_any t wr (by omega)).mono ?_
          rintro e w3 ⟨rfl, hb3⟩
          have HM3 := Lib.hid (HR.out.mod.trans (Mod.ofBelow hb3))
          have hcell3 := HCellK.out w3 HM3.out
          clear hb3 hcell
          generalize hdo : domOK (nums t) = dk
          have HDo := Lib.hid hdo
          clear hdo
          go_wp2_with fail
          go_roundw
          case rel => exact ⟨k + 1, _, _, rfl, rfl, by go_num, by omega, ⟨HFin.out, by omega, by rw [HOk.out, ← HR.out.ok, HDo.out]; rfl, HM3.out⟩⟩
          case measure => simp [intOf]; omega
    · have hke : k = ss.length := by omega
      have HSEq : Hid (s = strOfNums (60 :: rtW (ss.map nums))) := Lib.hid (by rw [HR.out.eq]; unfold rtS; rw [List.take_of_length_le (by omega)])
      have HGood : Hid (good = ss.all fun s => domOK (nums s)) := Lib.hid (by rw [HR.out.ok]; unfold okK; rw [List.take_of_length_le (by omega)])
      have HNr := Lib.hid (HR.out.mod.row HN1.out (by simp))
      have HMr := Lib.hid (HM1.out.trans HR.out.mod)
      have k0 := blk_cell HNr.out 0
      have k1 := blk_cell HNr.out 1
      clear hke
      go_wp2_with fail
      refine (text_any a d wr (by omega) (by omega)).mono ?_
      rintro e w2 ⟨rfl, hb2⟩
      have HN2 := Lib.hid (below_blk hb2 HNr.out)
      have HM2 := Lib.hid (HMr.out.trans (Mod.ofBelow hb2))
      clear hb2 k0 k1
      have hT : textL (nums a) (nums d) = if goodB (nums a) (nums d) then (boxL (nums a) (nums d), 0) else ([], 3) := rfl
      rw [hT]
      clear hT
      generalize hgd : goodB (nums a) (nums d) = gd
      have HGd := Lib.hid hgd
      clear hgd
      cases gd
      · go_wp2_with fail
        go_ret
        exact ⟨rfl, HM2.out.toBelow (by have := HG.out; omega) (by simp)⟩
      · simp only [if_true]
        cases good
        · go_wp2_with fail
          go_ret
          exact ⟨rfl, HM2.out.toBelow (by have := HG.out; omega) (by simp)⟩
        · have hbl := boxL_len (nums a) (nums d)
          have hxs : (strOfNums (boxL (nums a) (nums d))).size ≤ 303 := by rw [strOfNums_size]; have := HLa.out; have := HLd.out; omega
          have HX : Hid (nums (strOfNums (boxL (nums a) (nums d))) = boxL (nums a) (nums d)) := Lib.hid (nums_strOfNums (boxL_bytes (nums_bytes a) (nums_bytes d)))
          have HXs : Hid ((strOfNums (boxL (nums a) (nums d))).size = (boxL (nums a) (nums d)).length) := Lib.hid (strOfNums_size _)
          generalize strOfNums (boxL (nums a) (nums d)) = x at *
          have hs10 : s.size ≤ 1021 := by omega
          have hadd1 := add_str s { data := #[58] } (by omega) (by decide)
          have hz1 : (s ++ { data := #[58] }).size ≤ 1022 := by rw [ByteArray.size_append]; have : ({ data := #[58] } : ByteArray).size = 1 := rfl; omega
          generalize hy1 : s ++ { data := #[58] } = y1 at *
          have hadd2 := add_str y1 x (by omega) (by omega)
          have hz2 : (y1 ++ x).size ≤ 1325 := by rw [ByteArray.size_append]; omega
          generalize hy2 : y1 ++ x = y2 at *
          have hadd3 := add_str y2 { data := #[62, 32, 83, 73, 90, 69, 61, 49] } (by omega) (by decide)
          have hz3 : (y2 ++ { data := #[62, 32, 83, 73, 90, 69, 61, 49] }).size ≤ 1333 := by rw [ByteArray.size_append]; have : ({ data := #[62, 32, 83, 73, 90, 69, 61, 49] } : ByteArray).size = 8 := rfl; omega
          generalize hy3 : y2 ++ { data := #[62, 32, 83, 73, 90, 69, 61, 49] } = y3 at *
          have hbs : Bytes (60 :: rtW (ss.map nums)) := rtW_bytes ss
          have HRead : Hid (readL (nums y3) true = (nums a, nums d, s.size + 1 + x.size + 1, 0)) := Lib.hid (by
            have hsn : nums s = 60 :: rtW (ss.map nums) := by rw [HSEq.out, nums_strOfNums hbs]
            have hss : s.size = (60 :: rtW (ss.map nums)).length := by rw [← nums_length, hsn]
            have hr := read_route (l := nums a) (d := nums d) (ds := ss.map nums) [32, 83, 73, 90, 69, 61, 49] HGd.out (by intro e; have := congrArg List.length e; rw [List.length_map] at this; simp only [List.length_nil] at this; omega) (by
              intro q hq
              obtain ⟨z, hz, rfl⟩ := List.mem_map.1 hq
              have := HGood.out.symm
              rw [List.all_eq_true] at this
              exact this z hz)
            rw [← hy3, ← hy2, ← hy1, nums_append, nums_append, nums_append, hsn, HX.out]
            have e1 : nums { data := #[58] } = [58] := by decide +kernel
            have e2 : nums { data := #[62, 32, 83, 73, 90, 69, 61, 49] } = 62 :: [32, 83, 73, 90, 69, 61, 49] := by decide +kernel
            rw [e1, e2, hr, hss, HXs.out])
          clear hy1 hy2 hy3 hbs
          have k0 := blk_cell HN2.out 0
          have k1 := blk_cell HN2.out 1
          go_wp2_with fail
          refine (read_any y3 true w2 (by omega)).mono ?_
          rintro e w7 ⟨rfl, hb7⟩
          rw [HRead.out]
          simp only [strOfNums_nums]
          have hma : Mod [] w7 (w7.alloc (.cells #[.string a, .string d] 24)) := (Mod.refl [] w7).alloc _
          have HN7 := Lib.hid (hma.row (below_blk hb7 HN2.out) (by simp))
          have HM7 := Lib.hid ((HM2.out.trans (Mod.ofBelow hb7)).trans hma)
          clear hb7 hma k0 k1
          have k0 := blk_cell HN7.out 0
          have k1 := blk_cell HN7.out 1
          go_wp2_with fail
          go_ret
          exact ⟨rfl, HM7.out.toBelow (by have := HG.out; omega) (by simp)⟩
end Go.Proofs.Ytleldadpbpkkmaa
