/- OctetSinks: whatever is put down has just the bytes that the document says; what doesn't fit isn't put: for every input, no condition. -/
import Derived.Test.YtdgghfmhnidegaaTwo
import Derived.Deep.QuietTactic
import Derived.BigQuiet
import Derived.Deep.LoopGhost
import Derived.Deep.RegionWith
import Derived.Deep.DeepCutAuto
namespace Go.Proofs.Ytdgghfmhnidegaa
open Go.ChangeShapes Go.WideShapes Go.ChangeAt Go.RowKit
set_option linter.unusedVariables false
set_option linter.unusedSimpArgs false

/-- the loop's relation -/
def SinksRel (l : List Wd) (B : Nat) (w0 : World) (s : Nat) (n : Nat) (va : Value) (w : World) : Prop :=
  ∃ vs acc, Two B w0 w s vs acc va acc ∧ acc.length ≤ 400 * n

theorem putL_facts (v k : Int) : (putL v k).length ≤ 8 ∧ Bytes (putL v k) := by
  unfold putL; split
  · rename_i hs
    have := (holds_iff.1 hs).1
    rw [be_length]; exact ⟨by omega, be_bytes _ _⟩
  · exact ⟨by simp, Bytes.nil⟩

set_option maxRecDepth 100000 in
set_option maxHeartbeats 4000000 in
theorem sinks_any (a : Option Addr) (cap n : Nat) (l : List Wd) (w : World) (hc : Words w a l) (hn : n = l.length) (hl : l.length ≤ 9223372036854775807) :
    Calls Try.prog 4 #[.slice a n cap] w fun e w' => e = .returned (.bool true) ∧ Below w.heap.size w w' := by
  subst hn
  have HC := Lib.hid hc
  clear hc
  go_enter Try.func4, Try.ntmps4
  go_wp2_with fail
  refine (awake_any w).mono ?_
  rintro e w1 ⟨rfl, hb1⟩
  have HB1 := Lib.hid hb1
  clear hb1
  go_wp2_with fail
  refine (some_any a cap _ l w1 (HC.out.old HB1.out) rfl hl).mono ?_
  rintro e w1' ⟨rfl, rfl⟩
  by_cases hs : someB l = true
  case neg =>
    have hs : someB l = false := by simpa using hs
    rw [hs]
    go_wp2_with fail
    go_ret
    exact ⟨rfl, HB1.out⟩
  rw [hs]
  obtain ⟨h60, h300⟩ := some_iff.1 hs
  have H300 := Lib.hid h300
  clear hs h300
  go_wp2_with fail
  refine (newSink_any w1).mono ?_
  rintro e w2 ⟨rfl, hw2⟩
  have hsn := Snk.new w1
  rw [← hw2] at hsn
  have hm2 : Mod [] w1 w2 := by rw [hw2]; exact (Mod.refl [] w1).alloc _
  have hs1 : w.heap.size ≤ w1.heap.size := HB1.out.size
  have h2 : Two w.heap.size w w2 w1.heap.size (.slice none 0 0) [] (.slice none 0 0) [] :=
    ⟨hsn, World.ownsRow_nil _ _ _ _, hs1, by simp [Value.ownBlock], by simp [Value.ownBlock], by simp [Value.ownBlock], by simp [Value.ownBlock], HB1.out.trans (hm2.toBelow hs1 (by simp)), Bytes.nil⟩
  have H2 := Lib.hid h2
  clear hsn hm2 hw2 h2
  generalize w1.heap.size = s1 at *
  go_wp2_with fail
  go_loopw [4, 5] (fun va i wr => ∃ (n : Nat) (ao : Option Addr) (no co : Nat), n ≤ l.length ∧ i = .int .i64 n ∧ va = .slice ao no co ∧ SinksRel l w.heap.size w s1 n (.slice ao no co) wr) (fun _ i _ => (l.length - intOf i).toNat)
  case atStart => exact ⟨0, none, 0, 0, by omega, rfl, rfl, _, _, H2.out, by simp⟩
  case round =>
    obtain ⟨n, ao, no, co, hn, rfl, rfl, hrel⟩ := hrel
    by_cases hlt : n < l.length
    · obtain ⟨vs, acc, h2, hacc⟩ := hrel
      obtain ⟨b, o, rfl, c0, c1, c2, c3, c4⟩ := (HC.out.old (h2.below)).at hlt
      have hx300 := H300.out _ (getD_mem' hlt)
      have hok := HC.out.1 _ (getD_mem' hlt)
      generalize l.getD n default = x at *
      obtain ⟨kd, k, m, v, st⟩ := x
      obtain ⟨_, _, q2, q3, q4, q5, q6, q7, q8⟩ := hok
      simp only at c0 c1 c2 c3 c4 q2 q3 q4 q5 q6 q7 q8 hx300
      have hbox := h2.box (.cells #[.int .i64 kd, .int .i64 k, .int .i64 m, .int .u64 v, .string st] 39)
      have h3 := h2.quiet h2.size ((Mod.refl [] wr).alloc (.cells #[.int .i64 kd, .int .i64 k, .int .i64 m, .int .u64 v, .string st] 39))
      have HB := Lib.hid hbox
      have H3 := Lib.hid h3
      clear h2 hbox h3 H2
      generalize hwx : wr.alloc (.cells #[.int .i64 kd, .int .i64 k, .int .i64 m, .int .u64 v, .string st] 39) = wx at *
      have HWX := Lib.hid hwx
      clear hwx
      have hend : ∀ (vs9 : Value) (acc9 : List Int) (ao9 : Option Addr) (co9 : Nat) (w9 : World), Two w.heap.size w w9 s1 vs9 acc9 (.slice ao9 acc9.length co9) acc9 → acc9.length ≤ acc.length + 400 →
          SinksRel l w.heap.size w s1 (n + 1) (.slice ao9 acc9.length co9) w9 := fun vs9 acc9 ao9 co9 w9 h h' => ⟨vs9, acc9, h, by omega⟩
      have HEnd := Lib.hid hend
      clear hend
      have hno : no = acc.length := by
        obtain ⟨a9, cap9, e, _⟩ := owns_shape H3.out.own
        simp at e; exact e.2.1
      subst hno
      by_cases k0 : kd = 0
      · subst k0
        go_wp2_with fail
        rw [HWX.out]
        clear c0 c1 c2 c3 c4
        generalize wr.heap.size = X at *
        refine (rput_any v k wx q6 q7).mono ?_
        rintro e w5 ⟨a5, cap5, rfl, hown5, hbl5⟩
        have hpl : (putL v k).length ≤ 8 ∧ Bytes (putL v k) := putL_facts v k
        have hsu := fun (w' : World) (h : Snk w' s1 vs acc) => sinkU_any w' s1 vs acc h v k q6 q7 (by omega)
        have HSU := Lib.hid hsu
        clear hsu
        generalize putL v k = r at *
        generalize holdsB v k = hb at *
        have H5 := Lib.hid (H3.out.quiet H3.out.size (Mod.ofBelow hbl5))
        have HB5 := Lib.hid (HB.out.quiet (Mod.ofBelow hbl5))
        have HO5 := Lib.hid hown5
        obtain ⟨d0, d1, d2, d3, d4⟩ := five HB5.out.cell
        clear hown5 hbl5
        go_wp2_with fail
        refine (HSU.out _ H5.out.snk).mono ?_
        rintro e w6 ⟨rfl, vs6, hp⟩
        have H6 := Lib.hid (H5.out.puts hp)
        have C6 : Cells8 w6 a5 r := Cells8.ofOwns hpl.2 (hp.mod.owns HO5.out (by
          intro x hx hm
          have hx2 := (HO5.out.lt x hx).1
          simp only [List.mem_cons, Option.mem_toList] at hm
          rcases hm with rfl | hm
          · have := H3.out.snk.lt; omega
          · have := (H3.out.snk.own.lt x hm).2; omega))
        have C6H := Lib.hid C6
        clear hp C6 d0 d1 d2 d3 d4
        cases hb
        all_goals
          go_wp2_with (at_builtin; refine wpList_append8 _ rfl _ _ 23 23 rfl 5 Try.underlying23 Try.info8 _ acc rfl H6.out.own _ _ r rfl (Src.of8 C6H.out Try.underlying23 _ _ rfl) (by omega) (acc ++ r) rfl ?_)
          intro va7 w7 hg
          obtain ⟨a7, cap7, rfl⟩ := hg.shape
          have H7 := Lib.hid (H6.out.grew hg (H6.out.bytes.append hpl.2))
          have hl7 : (acc ++ r).length ≤ acc.length + 400 := by simp; omega
          clear hg
          generalize acc ++ r = acc7 at *
          go_wp2_with fail
          refine (len_any w7 s1 vs6 acc7 H7.out.snk).mono ?_
          rintro e w7' ⟨rfl, rfl⟩
          go_wp2_with fail
          go_roundw
          case rel => exact ⟨n + 1, a7, acc7.length, cap7, by omega, by go_num, rfl, HEnd.out _ _ _ _ _ H7.out hl7⟩
          case measure => simp [intOf]; omega
      by_cases k1 : kd = 1
      · subst k1
        clear k0
        go_wp2_with fail
        rw [HWX.out]
        clear c0 c1 c2 c3 c4
        generalize wr.heap.size = X at *
        refine (rFits_any m k wx q4 q5).mono ?_
        rintro e wx' ⟨rfl, rfl⟩
        obtain ⟨d0, d1, d2, d3, d4⟩ := five HB.out.cell
        go_wp2_with fail
        refine (sinkI_any wx s1 vs acc H3.out.snk m k q4 q5 (by omega)).mono ?_
        rintro e w5 ⟨rfl, vs5, hp⟩
        have H5 := Lib.hid (H3.out.puts hp)
        have HB5 := Lib.hid (HB.out.puts hp)
        clear hp d0 d1 d2 d3 d4
        by_cases hf : fitsB m k = true
        case neg =>
          have hf : fitsB m k = false := by simpa using hf
          have hl0 : acc ++ sinkIL m k = acc := by simp [sinkIL, hf]
          have H5' := H5.out
          rw [hl0] at H5'
          have H6 := Lib.hid H5'
          clear H5 H5'
          rw [hf]
          clear hf hl0
          go_wp2_with fail
          refine (len_any w5 s1 vs5 acc H6.out.snk).mono ?_
          rintro e w5' ⟨rfl, rfl⟩
          go_wp2_with fail
          go_roundw
          case rel => exact ⟨n + 1, ao, acc.length, co, by omega, by go_num, rfl, HEnd.out _ _ _ _ _ H6.out (by omega)⟩
          case measure => simp [intOf]; omega
        case pos =>
          obtain ⟨u0, u1, u2, _⟩ := uns_facts hf
          have hil : sinkIL m k = putL (unsV m k) k := by simp [sinkIL, putL, hf, u2]
          have hpl := putL_facts (unsV m k) k
          have H5' := H5.out
          rw [hil] at H5'
          have hru := fun (w' : World) => runsigned_any m k w' hf
          have hrp := fun (w' : World) => rput_any (unsV m k) k w' u0 u1
          rw [u2] at hrp
          rw [hf]
          have HRU := Lib.hid hru
          have HRP := Lib.hid hrp
          have H6 := Lib.hid H5'
          clear hil hf hru hrp H5 H5' u2
          generalize putL (unsV m k) k = r at *
          generalize unsV m k = u at *
          go_wp2_with fail
          go_cut [10, 11] (fun b0 b1 wc => ∃ (a8 : Option Addr) (cap8 : Nat), b0 = .slice a8 r.length cap8 ∧ b1 = .bool true ∧ Two w.heap.size w wc s1 vs5 (acc ++ r) (.slice ao acc.length co) acc ∧ Cells8 wc a8 r)
          case first =>
            have hq : Mod [] w5 w5.drew := (Mod.refl [] w5).drew
            have H7 := Lib.hid (H6.out.quiet H6.out.size hq)
            have HB7 := Lib.hid (HB5.out.quiet hq)
            obtain ⟨d0, d1, d2, d3, d4⟩ := five HB7.out.cell
            clear hq
            go_region_with (first
              | (go_at_call 23; refine (HRU.out _).mono ?_; rintro e w8 ⟨rfl, rfl⟩)
              | (go_at_call 10; refine (HRP.out _).mono ?_; rintro e w8 ⟨a8, cap8, rfl, hown8, hbl8⟩; have H8 := Lib.hid (H7.out.quiet H7.out.size (Mod.ofBelow hbl8)); have C8 := Lib.hid (Cells8.ofOwns hpl.2 hown8); have HB8 := HB7.out.quiet (Mod.ofBelow hbl8); obtain ⟨e0, e1, e2, e3, e4⟩ := five HB8.cell; clear hown8 hbl8 HB8))
            all_goals (go_wp2_with fail; go_meet; exact ⟨a8, cap8, rfl, rfl, H8.out, C8.out⟩)
          case rest =>
            obtain ⟨a8, cap8, rfl, rfl, h8, c8⟩ := hcut
            have H8 := Lib.hid h8
            have C8 := Lib.hid c8
            clear h8 c8
            go_wp2_with (at_builtin; refine wpList_append8 _ rfl _ _ 23 23 rfl 5 Try.underlying23 Try.info8 _ acc rfl H8.out.own _ _ r rfl (Src.of8 C8.out Try.underlying23 _ _ rfl) (by omega) (acc ++ r) rfl ?_)
            intro va9 w9 hg
            obtain ⟨a9, cap9, rfl⟩ := hg.shape
            have H9 := Lib.hid (H8.out.grew hg ((H3.out.bytes).append hpl.2))
            have hl9 : (acc ++ r).length ≤ acc.length + 400 := by simp; omega
            clear hg
            generalize acc ++ r = acc9 at *
            go_wp2_with fail
            refine (len_any w9 s1 vs5 acc9 H9.out.snk).mono ?_
            rintro e w9' ⟨rfl, rfl⟩
            go_wp2_with fail
            go_roundw
            case rel =>
              first
                | exact ⟨n + 1, a9, acc9.length, cap9, by omega, by go_num, rfl, HEnd.out _ _ _ _ _ H9.out hl9⟩
                | ((repeat apply Exists.intro); exact ⟨⟨n + 1, a9, acc9.length, cap9, by omega, by go_num, rfl, HEnd.out _ _ _ _ _ H9.out hl9⟩, rfl⟩)
            case measure => simp [intOf]; omega
      by_cases k2 : kd = 2
      · subst k2
        clear k0 k1
        go_wp2_with fail
        rw [HWX.out]
        clear c0 c1 c2 c3 c4
        generalize wr.heap.size = X at *
        refine (sinkText_any wx s1 vs acc H3.out.snk st (by omega) (by omega)).mono ?_
        rintro e w5 ⟨rfl, vs5, hp⟩
        have hpl : (textL st).length ≤ 400 ∧ Bytes (textL st) := ⟨by rw [textL_length]; omega, textL_bytes st⟩
        have HRT := Lib.hid (rtext_any st w5 (by omega))
        generalize textL st = r at *
        have H5 := Lib.hid (H3.out.puts hp)
        have HB5 := Lib.hid (HB.out.puts hp)
        obtain ⟨d0, d1, d2, d3, d4⟩ := five HB5.out.cell
        clear hp
        go_wp2_with fail
        refine HRT.out.mono ?_
        rintro e w6 ⟨a6, cap6, rfl, hown6, hbl6⟩
        have H6 := Lib.hid (H5.out.quiet H5.out.size (Mod.ofBelow hbl6))
        have C6H := Lib.hid (Cells8.ofOwns hpl.2 hown6)
        clear hown6 hbl6 d0 d1 d2 d3 d4
        go_wp2_with (at_builtin; refine wpList_append8 _ rfl _ _ 23 23 rfl 5 Try.underlying23 Try.info8 _ acc rfl H6.out.own _ _ r rfl (Src.of8 C6H.out Try.underlying23 _ _ rfl) (by omega) (acc ++ r) rfl ?_)
        intro va7 w7 hg
        obtain ⟨a7, cap7, rfl⟩ := hg.shape
        have H7 := Lib.hid (H6.out.grew hg (H6.out.bytes.append hpl.2))
        have hl7 : (acc ++ r).length ≤ acc.length + 400 := by simp; omega
        clear hg
        generalize acc ++ r = acc7 at *
        go_wp2_with fail
        refine (len_any w7 s1 vs5 acc7 H7.out.snk).mono ?_
        rintro e w7' ⟨rfl, rfl⟩
        go_wp2_with fail
        go_roundw
        case rel => exact ⟨n + 1, a7, acc7.length, cap7, by omega, by go_num, rfl, HEnd.out _ _ _ _ _ H7.out hl7⟩
        case measure => simp [intOf]; omega
      by_cases k3 : kd = 3
      · subst k3
        clear k0 k1 k2
        obtain ⟨a5, cap5, w5, hcv, c85, hm5, _, _, _⟩ := conv_bytes (P := Try.prog) wx 9 23 5 st Try.underlying9 Try.underlying23 Try.underlying5
        have hsrc := fun (w' : World) => Src.ofString (P := Try.prog) w' Try.underlying9 st
        rw [byteCells_eq] at hsrc
        have HSrc := Lib.hid hsrc
        have hpl : (nums st).length ≤ 300 ∧ Bytes (nums st) := ⟨by rw [nums_length]; omega, nums_bytes st⟩
        have hnl : st.size = (nums st).length := (nums_length st).symm
        have HNL := Lib.hid hnl
        have H5 := Lib.hid (H3.out.quiet H3.out.size hm5)
        have HB5 := Lib.hid (HB.out.quiet hm5)
        have C85 := Lib.hid c85
        have HCV := Lib.hid hcv
        generalize nums st = r at *
        clear hsrc hnl c85 hm5 hcv
        go_wp2_with fail
        rw [HWX.out]
        clear c0 c1 c2 c3 c4
        generalize wr.heap.size = X at *
        rw [HCV.out]
        go_wp2_with fail
        refine (raw_any w5 s1 vs acc H5.out.snk a5 cap5 _ r C85.out HNL.out (by omega)).mono ?_
        rintro e w6 ⟨rfl, vs6, hp⟩
        have H6 := Lib.hid (H5.out.puts hp)
        have HB6 := Lib.hid (HB5.out.puts hp)
        obtain ⟨d0, d1, d2, d3, d4⟩ := five HB6.out.cell
        clear hp
        go_wp2_with (at_builtin; refine wpList_append8 _ rfl _ _ 23 9 rfl 5 Try.underlying23 Try.info8 _ acc rfl H6.out.own _ _ r rfl (HSrc.out _) (by omega) (acc ++ r) rfl ?_)
        intro va7 w7 hg
        obtain ⟨a7, cap7, rfl⟩ := hg.shape
        have H7 := Lib.hid (H6.out.grew hg (H6.out.bytes.append hpl.2))
        have hl7 : (acc ++ r).length ≤ acc.length + 400 := by simp; omega
        clear hg d0 d1 d2 d3 d4
        generalize acc ++ r = acc7 at *
        go_wp2_with fail
        refine (len_any w7 s1 vs6 acc7 H7.out.snk).mono ?_
        rintro e w7' ⟨rfl, rfl⟩
        go_wp2_with fail
        go_roundw
        case rel => exact ⟨n + 1, a7, acc7.length, cap7, by omega, by go_num, rfl, HEnd.out _ _ _ _ _ H7.out hl7⟩
        case measure => simp [intOf]; omega
      have g0 : (kd == 0) = false := by simpa using k0
      have g1 : (kd == 1) = false := by simpa using k1
      have g2 : (kd == 2) = false := by simpa using k2
      have g3 : (kd == 3) = false := by simpa using k3
      clear k0 k1 k2 k3
      go_wp2_with fail
      rw [HWX.out]
      clear c0 c1 c2 c3 c4
      generalize wr.heap.size = X at *
      refine (len_any wx s1 vs acc H3.out.snk).mono ?_
      rintro e w7' ⟨rfl, rfl⟩
      go_wp2_with fail
      go_roundw
      case rel => exact ⟨n + 1, ao, acc.length, co, by omega, by go_num, rfl, HEnd.out _ _ _ _ _ H3.out (by omega)⟩
      case measure => simp [intOf]; omega
    · obtain ⟨vs, acc, h2, hacc⟩ := hrel
      have H3 := Lib.hid h2
      clear h2 H2
      go_wp2_with fail
      have hq : Two w.heap.size w wr.drew s1 vs acc (.slice ao no co) acc := H3.out.quiet H3.out.size ((Mod.refl [] wr).drew)
      have hno : no = acc.length := by
        obtain ⟨a9, cap9, e, _⟩ := owns_shape hq.own
        simp at e; exact e.2.1
      subst hno
      have HQ := Lib.hid hq
      have F1 := run_str (P := Try.prog) (Cells8.ofOwns hq.bytes hq.own) 23 9 5 _ co Try.underlying23 Try.underlying5 Try.underlying9 rfl
      clear hq
      have hfin : ∀ (w' : World), Below wr.drew.heap.size wr.drew w' → Below w.heap.size w w' := fun w' h => HQ.out.below.trans (h.mono HQ.out.size)
      have HFin := Lib.hid hfin
      clear hfin
      go_region_with (go_at_call 28; refine (sinkBytes_any _ s1 _ _ HQ.out.snk (by omega)).mono ?_; rintro e w4 ⟨a4, cap4, rfl, hown4, hbl4⟩; have F2 := run_str (P := Try.prog) (Cells8.ofOwns HQ.out.snk.bytes hown4) 23 9 5 acc.length cap4 Try.underlying23 Try.underlying5 Try.underlying9 rfl; have F3 := run_str (P := Try.prog) ((Cells8.ofOwns HQ.out.bytes HQ.out.own).mod (Mod.ofBelow hbl4) (by simp)) 23 9 5 _ co Try.underlying23 Try.underlying5 Try.underlying9 rfl; have HB4 := Lib.hid (HFin.out _ hbl4); clear hown4 hbl4)
      all_goals (go_wp2_with fail; go_ret; exact ⟨rfl, HB4.out⟩)
end Go.Proofs.Ytdgghfmhnidegaa
