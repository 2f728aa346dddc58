/- MboxSums: the use is the sum of what is live; what is gone stays gone. -/
import Derived.Test.YtfcdapicemlfgaaDoorMbMakesLaw
import Derived.Test.YtfcdapicemlfgaaDoorMbN
import Derived.Test.YtfcdapicemlfgaaDoorMbT
namespace Go.Proofs.YtfcdapicemlfgaaDoor
open Go.ChangeShapes Go.WideShapes Go.ChangeAt Go.RowKit
open Qu
set_option linter.unusedVariables false
set_option linter.unusedSimpArgs false

theorem runX_more : ∀ (k : Nat) (rs : List Rc), k ≤ rs.length → k ≤ 1000 → OrdX (runX (rs.take k)) ∧ SumX (runX (rs.take k))
  | 0, rs, _, _ => ⟨OrdX.new, SumX.new⟩
  | k + 1, rs, h, hk => by
    obtain ⟨h1, h2⟩ := runX_more k rs (by omega) (by omega)
    obtain ⟨h3, h4⟩ := runX_inv k rs (by omega)
    rw [runX_next (by omega)]
    exact ⟨h1.box _, h2.box h3 (by omega) h1 h4 _⟩
theorem sizeEnt : ∀ w, (Go.sizeOf 39).run Tryd.prog w = .ok 7 w := fun w => by kernel_rfl
/-- an own row of entries, cell by cell -/
theorem own_at {w : World} {B n : Nat} {v : Value} {xs : List Ent} (h : w.ownsRow B 39 7 v n (rowC entC xs)) (h0 : 0 < xs.length) :
    ∃ bk o cap, v = .slice (some ⟨bk, o, none⟩) n cap ∧ bk < w.heap.size ∧ n = xs.length ∧ ∀ i (hi : i < xs.length) j, j < 7 → w.cell? ⟨bk, o + i * 7 + j, none⟩ = (entC xs[i])[j]? := by
  have hl := h.1
  rw [rowC_length entC_size] at hl
  rcases h.2 with ⟨e0, hn⟩ | ⟨g, cap, cur, rfl, hb, hg, hn, hm, hs, ht⟩
  · omega
  · refine ⟨g, 0, cap, rfl, ?_, by omega, fun i hi j hj => ?_⟩
    · rcases Nat.lt_or_ge g w.heap.size with h' | h'
      · exact h'
      · rw [Array.getElem?_eq_none h'] at hg; cases hg
    · rw [Nat.zero_add, blk_cell hg]
      have h1 := rowC_get (enc := entC) entC_size xs i hi j hj
      rw [← ht, List.getElem?_take, if_pos (by omega), Array.getElem?_toList] at h1
      exact h1
/-- the mailbox and two lists of entries in memory -/
structure LS (w0 w : World) (g ge go n : Nat) (b : Bx) (v4 : Value) (was : List Ent) (v7 : Value) (all : List Ent) : Prop where
  mw : MW w0 w g ge go n b
  was : w.ownsRow w0.heap.size 39 7 v4 was.length (rowC entC was)
  all : w.ownsRow w0.heap.size 39 7 v7 all.length (rowC entC all)
theorem LS.quiet {w0 w w' : World} {g ge go n : Nat} {b : Bx} {v4 v7 : Value} {was all : List Ent} (h : LS w0 w g ge go n b v4 was v7 all) (hm : Mod [] w w') : LS w0 w' g ge go n b v4 was v7 all := ⟨h.mw.quiet hm, hm.owns h.was (by simp), hm.owns h.all (by simp)⟩
theorem MB.row_apart {w : World} {g ge go n B m : Nat} {b : Bx} {v : Value} {xs : List Value} (h : MB w g ge go n b) (ho : w.ownsRow B 39 7 v m xs) : ∀ q, v.ownBlock = some q → q ∉ [g, ge, go] := by
  intro q hq hm
  obtain ⟨cs, hcs⟩ := owns_isT ho hq
  simp only [List.mem_cons, List.not_mem_nil, or_false] at hm
  rcases hm with rfl | rfl | rfl
  · have := h.row; rw [hcs] at this; simp at this
  · obtain ⟨_, _, h4, _⟩ := h.ents; rw [hcs] at h4; cases h4
  · obtain ⟨_, _, h4, _⟩ := h.orgs; rw [hcs] at h4; cases h4
set_option maxRecDepth 100000 in
set_option maxHeartbeats 16000000 in
theorem qsums_any (a : Option Addr) (n0 cap : Nat) (rs : List Rc) (w : World) (hC : InRecs w a rs) (hn : n0 = rs.length) (hl : rs.length ≤ 9223372036854775807) (ht : Forms w) :
    Calls Tryd.prog 5 #[.slice a n0 cap] w fun e w' => e = .returned (.bool true) ∧ Mod [] w w' := by
  subst hn
  have HAw := Lib.hid (awake_any w ht)
  have HT := Lib.hid ht
  have HC := Lib.hid hC
  have HFw := Lib.hid (fun W (h : InRecs W a rs) => few_any W a cap rs h hl)
  clear ht hC
  cases hf : fewB rs
  case false =>
    rw [hf] at HFw
    clear hf hl
    go_enter Tryd.func5, Tryd.ntmps5
    go_wp2_with (first | (go_at_call 7; (refine HAw.out.mono ?_); rintro e w1 ⟨rfl, hm⟩; have HM1 := Lib.hid hm; clear hm) | (go_at_call 8; (refine (HFw.out _ (HC.out.quiet HM1.out)).mono ?_); rintro e w2 ⟨rfl, hm⟩; have HM2 := Lib.hid (HM1.out.trans hm); clear hm))
    go_ret
    exact ⟨rfl, HM2.out⟩
  case true =>
    rw [hf] at HFw
    have h40 : rs.length ≤ 40 := by
      unfold fewB at hf
      rw [Bool.and_eq_true, decide_eq_true_eq] at hf
      exact hf.1
    have HNw := Lib.hid new_any
    unfold NewP at HNw
    clear hf hl
    go_enter Tryd.func5, Tryd.ntmps5
    go_wp2_with (first | (go_at_call 7; (refine HAw.out.mono ?_); rintro e w1 ⟨rfl, hm⟩; have HM1 := Lib.hid hm; clear hm) | (go_at_call 8; (refine (HFw.out _ (HC.out.quiet HM1.out)).mono ?_); rintro e w2 ⟨rfl, hm⟩; have HM2 := Lib.hid (HM1.out.trans hm); clear hm) | (go_at_call 9; (refine (HNw.out _).mono ?_); rintro e w3 ⟨g, ge, go, rfl, hb, hm, h1, h2, h3⟩; have H3 := Lib.hid (show MW w w3 g ge go (2 * 0) (runX (rs.take 0)) from ⟨hb, HM2.out.trans hm, by have := HM2.out.size; omega⟩); clear hb hm h1 h2 h3))
    clear HAw HFw HNw HM1 HM2
    go_loopw [4, 5, 6] (fun v4 v5 v wr => ∃ k : Nat, v = .int .i64 k ∧ k ≤ rs.length ∧ MW w wr g ge go (2 * k) (runX (rs.take k)) ∧ v5 = .int .i64 (runX (rs.take k)).next ∧ wr.ownsRow w.heap.size 39 7 v4 (valsX (runX (rs.take k)).L).length (rowC entC (valsX (runX (rs.take k)).L))) (fun _ _ v _ => rs.length - (intOf v).toNat)
    case atStart => exact ⟨0, rfl, Nat.zero_le _, H3.out, rfl, World.ownsRow_nil _ _ _ _⟩
    case round =>
      obtain ⟨k, rfl, hk, hw, rfl, hown⟩ := hrel
      have HW := Lib.hid hw
      have HOwn := Lib.hid hown
      clear hw hown
      by_cases hlt : k < rs.length
      · obtain ⟨b, o, ha, pa, pc, hc, hin⟩ := (HC.out.quiet HW.out.mod).get hlt
        have hix := ixR (P := Tryd.prog) 22 35 Tryd.underlying22 12 sizeRec a b o rs.length cap k ha hlt
        have hT := take20_any _ g ge go _ _ HW.out.mb (by omega) (rs.getD k Rc.none) hin.1 pa pc hin.2.2 (HW.out.forms HT.out)
        unfold BoxP at hT
        have HRn := Lib.hid (runX_next hlt)
        have HI1 := Lib.hid (runX_inv (k + 1) rs (by omega))
        have HI2 := Lib.hid (runX_more (k + 1) rs (by omega) (by omega))
        have HE := Lib.hid (ext_box (runX_more k rs (by omega) (by omega)).1 (rs.getD k Rc.none))
        have HNk := Lib.hid (runX_inv k rs (by omega)).1.next
        rw [← runX_next hlt] at HE
        obtain ⟨r, hr⟩ : ∃ r, rs.getD k Rc.none = r := ⟨_, rfl⟩
        rw [hr] at hc hT HRn
        obtain ⟨rb, hrb⟩ : ∃ rb, boxX (runX (rs.take k)) r = rb := ⟨_, rfl⟩
        rw [hrb] at hT HRn
        obtain ⟨b1, c1⟩ := rb
        dsimp only at hT HRn
        rw [HRn.out] at HI1 HI2 HE
        have HTk := Lib.hid hT
        clear hr ha hin hT hrb
        have c0 := hc 0 (by decide)
        rw [Nat.add_zero] at c0
        have c1 := hc 1 (by decide)
        have c2 := hc 2 (by decide)
        have c3 := hc 3 (by decide)
        have c4 := hc 4 (by decide)
        have c5 := hc 5 (by decide)
        have c6 := hc 6 (by decide)
        have c7 := hc 7 (by decide)
        have c8 := hc 8 (by decide)
        have c9 := hc 9 (by decide)
        have c10 := hc 10 (by decide)
        have c11 := hc 11 (by decide)
        clear hc
        have HLi := Lib.hid (fun W (h : MB W g ge go (2 * k + 2) b1) => list_any W g ge go (2 * k + 2) b1 h HI2.out.1 (by omega) true)
        rw [listX_all] at HLi
        go_wp2_with (first
          | (go_at_call 12; (refine HTk.out.mono ?_); rintro e w4 ⟨rfl, hb, hm⟩; have H4 := Lib.hid (HW.out.step hb hm); have HO4 := Lib.hid (hm.owns HOwn.out (HW.out.mb.row_apart HOwn.out)); clear hb hm)
          | (go_at_call 24; (refine (HLi.out _ H4.out.mb).mono ?_); rintro e w5 ⟨v7, rfl, hrow, hm⟩; obtain ⟨a7, k7, hv7, -, -⟩ := owns_shape hrow; subst hv7; have H5 := Lib.hid (show LS w w5 g ge go (2 * k + 2) b1 _ _ _ _ from ⟨H4.out.quiet hm, hm.owns HO4.out (by simp), owns_rebase hrow (fun q hq => by have := (hrow.lt q hq).1; have := H4.out.mod.size; omega)⟩); clear hrow hm))
        have hwl : (runX (rs.take k)).L.length ≤ 100 := by have := HW.out.mb.ents.len_le; omega
        clear c0 c1 c2 c3 c4 c5 c6 c7 c8 c9 c10 c11 hix HTk HLi H4 HO4 HOwn HW
        have HMono := Lib.hid (show (runX (rs.take k)).next ≤ b1.next by rw [← HRn.out, runX_next hlt]; exact next_box _ _)
        have HV4 := Lib.hid (runX_inv (k + 1) rs (by omega)).1.ub
        obtain ⟨was, hwas⟩ : ∃ l, valsX (runX (rs.take k)).L = l := ⟨_, rfl⟩
        rw [hwas] at H5 HE
        obtain ⟨all, hall⟩ : ∃ l, valsX b1.L = l := ⟨_, rfl⟩
        have HLen := Lib.hid (show all.length ≤ 100 by rw [← hall]; unfold valsX; rw [List.length_map]; have := H5.out.mw.mb.ents.len_le; omega)
        have HRise := Lib.hid (rise_vals HI2.out.1)
        have HBel := Lib.hid (vals_below HI2.out.1 HI1.out.1)
        have HSzs := Lib.hid (szX_mem HI2.out.1 HI1.out.2)
        have HSumB := Lib.hid HI2.out.2.bytes
        have HSumC := Lib.hid HI2.out.2.count
        have HUb := Lib.hid HI1.out.1.ub
        have HUc := Lib.hid HI1.out.1.uc
        have HNx1 := Lib.hid HI1.out.1.next
        have HWas := Lib.hid (show was.length ≤ 100 by rw [← hwas]; unfold valsX; rw [List.length_map]; exact hwl)
        rw [hall] at H5 HE HRise HBel HSzs HSumB HSumC ⊢
        have HAll := Lib.hid hall
        clear hwas hall hwl HI1 HI2 HV4
        generalize (runX (rs.take k)).next = nx0 at *
        go_loopw [8, 9, 10, 11] (fun v8 v9 v10 v wr => ∃ m kk : Nat, v = .int .i64 m ∧ m ≤ all.length ∧ v8 = .int .i64 (szL (all.take m)) ∧ v9 = .int .i64 (ctL (all.take m)) ∧ v10 = .int .i64 kk ∧ kk ≤ was.length ∧ Ext (was.drop kk) (all.drop m) ∧ LS w wr g ge go (2 * k + 2) b1 u4 was (.slice a7 all.length k7) all) (fun _ _ _ v _ => all.length - (intOf v).toNat)
        case atStart => exact ⟨0, 0, rfl, Nat.zero_le _, rfl, rfl, rfl, Nat.zero_le _, HE.out, H5.out⟩
        case round =>
          obtain ⟨m, kk, rfl, hm, rfl, rfl, rfl, hkk, hext, hls⟩ := hrel
          have HL := Lib.hid hls
          have HX := Lib.hid hext
          clear hls hext H5
          by_cases hml : m < all.length
          · obtain ⟨b7, o7, q7, hv7, hb7, -, hcells⟩ := own_at HL.out.all (by omega)
            simp only [Value.slice.injEq] at hv7
            obtain ⟨rfl, -, rfl⟩ := hv7
            have hix := ixR (P := Tryd.prog) 27 39 Tryd.underlying27 7 sizeEnt _ b7 o7 all.length k7 m rfl hml
            have hS := szL_next hml
            have hB := HBel.out _ (List.getElem_mem hml)
            have hZ := HSzs.out _ (List.getElem_mem hml)
            have hext := HX.out
            rw [drop_next hml] at hext
            have hcm := hcells m hml
            obtain ⟨e, he⟩ : ∃ e, all[m] = e := ⟨_, rfl⟩
            rw [he] at hS hB hZ hext hcm
            obtain ⟨nx1, hnx⟩ : ∃ x, b1.next = x := ⟨_, rfl⟩
            have HNx := Lib.hid (fun W h => next_is hnx W g ge go (2 * k + 2) h)
            rw [hnx] at hB
            have hlow := szL_take_le HSzs.out m
            have hloc := ctL_take_le (L := all) m
            have hlow1 := szL_take_le HSzs.out (m + 1)
            have hloc1 := ctL_take_le (L := all) (m + 1)
            have hub := HUb.out
            have huc := HUc.out
            rw [HSumB.out] at hub
            rw [HSumC.out] at huc
            have hn1 := HLen.out
            have hwm : IntKind.i64.wrap ((m : Int) + 1) = ((m + 1 : Nat) : Int) := by rw [IntKind.wrap_i64] <;> omega
            obtain ⟨q1, q2, q3, q4, q5, q6, q7⟩ := e
            have x0 := hcm 0 (by decide)
            rw [Nat.add_zero] at x0
            have x1 := hcm 1 (by decide)
            have x2 := hcm 2 (by decide)
            have x3 := hcm 3 (by decide)
            have x4 := hcm 4 (by decide)
            have x5 := hcm 5 (by decide)
            have x6 := hcm 6 (by decide)
            dsimp only at hS hB hZ x0 x1 x2 x3 x4 x5 x6
            have hd1 : decide (nx1 ≤ q1) = false := by simp; omega
            have HPrev := Lib.hid (fun p (hp : p + 1 = m) => And.intro (hcells p (by omega) 0 (by decide)) (List.pairwise_iff_getElem.1 HRise.out p m (by omega) hml (by omega)))
            have hix0 := fun p (hp : p + 1 = m) => ixR (P := Tryd.prog) 27 39 Tryd.underlying27 7 sizeEnt _ b7 o7 all.length k7 p rfl (by omega)
            have HIx0 := Lib.hid hix0
            have HCs := Lib.hid hcells
            have HCm := Lib.hid hcm
            have HExt := Lib.hid hext
            have HS := Lib.hid hS
            have hbs : q7 = false → IntKind.i64.wrap (szL (all.take m) + q5) = szL (all.take m) + q5 := fun h => by subst h; simp at hS; rw [IntKind.wrap_i64] <;> omega
            have hcs : q7 = false → IntKind.i64.wrap (ctL (all.take m) + 1) = ctL (all.take m) + 1 := fun h => by subst h; simp at hS; rw [IntKind.wrap_i64] <;> omega
            clear hcm hcells hix0 hext hS hlow hloc hlow1 hloc1 hub huc hB hZ
            have HX0 := Lib.hid x0
            have HX1 := Lib.hid x1
            have HX2 := Lib.hid x2
            have HX3 := Lib.hid x3
            have HX4 := Lib.hid x4
            have HX5 := Lib.hid x5
            have HX6 := Lib.hid x6
            have HM0 := Lib.hid (fun q => mod_drewN wr q)
            cases q7
            case true =>
              clear hbs hcs
              rcases Nat.eq_zero_or_pos m with h0 | h0
              · have hd2 : ¬ (0 : Int) < (m : Int) := by omega
                have hd2' : ¬ 0 < m := by omega
                clear h0
                go_wp2_with fail
                go_quiet ((go_at_call 19; exact quiet_eq (HNx.out _ (HL.out.mw.mb.quiet (mod_drewN _ _)))))
                go_wp2_with fail
                (have HM1 := Lib.hid (HM0.out nq)
                 have HL1 := Lib.hid (HL.out.quiet HM1.out)
                 generalize wr.drewN nq = W1 at HM1 HL1 ⊢
                 clear x0 x1 x2 x3 x4 x5 x6
                 have x0 := HM1.out.cell HX0.out (by simp)
                 have x1 := HM1.out.cell HX1.out (by simp)
                 have x2 := HM1.out.cell HX2.out (by simp)
                 have x3 := HM1.out.cell HX3.out (by simp)
                 have x4 := HM1.out.cell HX4.out (by simp)
                 have x5 := HM1.out.cell HX5.out (by simp)
                 have x6 := HM1.out.cell HX6.out (by simp)
                 rcases HExt.out.cons_inv with ⟨oe, r', hdr, hou, hok, hext⟩ | ⟨hne, hext⟩
                 · have hkl : kk < was.length := by
                     rcases Nat.lt_or_ge kk was.length with h | h
                     · exact h
                     · rw [List.drop_eq_nil_of_le h] at hdr; cases hdr
                   rw [drop_next hkl] at hdr
                   simp only [List.cons.injEq] at hdr
                   obtain ⟨ho, rfl⟩ := hdr
                   obtain ⟨b4, o4, k4, hv4, hb4, -, hcw⟩ := own_at HL1.out.was (by omega)
                   subst hv4
                   have hiw := ixR (P := Tryd.prog) 27 39 Tryd.underlying27 7 sizeEnt _ b4 o4 was.length k4 kk rfl hkl
                   have hcw' := hcw kk hkl
                   rw [ho] at hcw'
                   obtain ⟨p1, p2, p3, p4, p5, p6, p7⟩ := oe
                   have hp1 : p1 = q1 := hou
                   have hp4 : p4 = q4 := hok.body
                   have hp5 : p5 = q5 := hok.size
                   have hp6 : p6 = q6 := hok.org
                   subst hp1 hp4 hp5 hp6
                   have z0 : W1.cell? ⟨b4, o4 + kk * 7, none⟩ = some (.int .i64 p1) := by have h := hcw' 0 (by decide); rw [Nat.add_zero] at h; exact h
                   have z1 : W1.cell? ⟨b4, o4 + kk * 7 + 1, none⟩ = some (.int .i64 p2) := hcw' 1 (by decide)
                   have z2 : W1.cell? ⟨b4, o4 + kk * 7 + 2, none⟩ = some (.int .i64 p3) := hcw' 2 (by decide)
                   have z3 : W1.cell? ⟨b4, o4 + kk * 7 + 3, none⟩ = some (.int .i64 p4) := hcw' 3 (by decide)
                   have z4 : W1.cell? ⟨b4, o4 + kk * 7 + 4, none⟩ = some (.int .i64 p5) := hcw' 4 (by decide)
                   have z5 : W1.cell? ⟨b4, o4 + kk * 7 + 5, none⟩ = some (.int .i64 p6) := hcw' 5 (by decide)
                   have z6 : W1.cell? ⟨b4, o4 + kk * 7 + 6, none⟩ = some (.bool p7) := hcw' 6 (by decide)
                   have hd4 : (kk : Int) < (was.length : Int) := by omega
                   have hwk : IntKind.i64.wrap ((kk : Int) + 1) = ((kk + 1 : Nat) : Int) := by have := HWas.out; rw [IntKind.wrap_i64] <;> omega
                   have HGo := Lib.hid hok.gone
                   have HE1 := Lib.hid hext
                   clear hcw hcw' ho hou hok hext
                   go_quiet (fail)
                   have HM2 := Lib.hid (mod_drewN W1 nq)
                   have HL2 := Lib.hid (HL1.out.quiet HM2.out)
                   generalize W1.drewN nq = W2 at HM2 HL2 ⊢
                   replace x0 := HM2.out.cell x0 (by simp)
                   replace x1 := HM2.out.cell x1 (by simp)
                   replace x2 := HM2.out.cell x2 (by simp)
                   replace x3 := HM2.out.cell x3 (by simp)
                   replace x4 := HM2.out.cell x4 (by simp)
                   replace x5 := HM2.out.cell x5 (by simp)
                   replace x6 := HM2.out.cell x6 (by simp)
                   replace z0 := HM2.out.cell z0 (by simp)
                   replace z1 := HM2.out.cell z1 (by simp)
                   replace z2 := HM2.out.cell z2 (by simp)
                   replace z3 := HM2.out.cell z3 (by simp)
                   replace z4 := HM2.out.cell z4 (by simp)
                   replace z5 := HM2.out.cell z5 (by simp)
                   replace z6 := HM2.out.cell z6 (by simp)
                   go_wp2_with fail
                   have hm3 := (Mod.refl [] W2).alloc (.cells #[.int .i64 p1, .int .i64 p2, .int .i64 p3, .int .i64 p4, .int .i64 p5, .int .i64 p6, .bool p7] 39)
                   have HM3 := Lib.hid hm3
                   have HN := Lib.hid (heap_alloc_new W2 (.cells #[.int .i64 p1, .int .i64 p2, .int .i64 p3, .int .i64 p4, .int .i64 p5, .int .i64 p6, .bool p7] 39))
                   have HL3 := Lib.hid (HL2.out.quiet hm3)
                   clear hm3 z0 z1 z2 z3 z4 z5 z6 hiw
                   generalize W2.alloc (.cells #[.int .i64 p1, .int .i64 p2, .int .i64 p3, .int .i64 p4, .int .i64 p5, .int .i64 p6, .bool p7] 39) = W3 at HM3 HN HL3 ⊢
                   generalize W2.heap.size = g12 at HN ⊢
                   replace x0 := HM3.out.cell x0 (by simp)
                   replace x1 := HM3.out.cell x1 (by simp)
                   replace x2 := HM3.out.cell x2 (by simp)
                   replace x3 := HM3.out.cell x3 (by simp)
                   replace x4 := HM3.out.cell x4 (by simp)
                   replace x5 := HM3.out.cell x5 (by simp)
                   replace x6 := HM3.out.cell x6 (by simp)
                   have n0 := blk_cell HN.out 0
                   have n1 := blk_cell HN.out 1
                   have n2 := blk_cell HN.out 2
                   have n3 := blk_cell HN.out 3
                   have n4 := blk_cell HN.out 4
                   have n5 := blk_cell HN.out 5
                   have n6 := blk_cell HN.out 6
                   cases p7
                   case true =>
                     have hge := HGo.out rfl
                     simp only [Ent.mk.injEq, true_and, and_true, Bool.true_eq_false, Bool.false_eq_true, and_false] at hge
                     try (exact hge.elim)
                     try obtain ⟨rfl, rfl⟩ := hge
                     all_goals
                       go_quiet (fail)
                       go_wp2_with fail
                       go_roundw
                     case rel => exact ⟨m + 1, kk + 1, by go_num, by omega, by rw [HS.out.1]; simp, by rw [HS.out.2]; simp, by go_num, by omega, HE1.out, HL3.out.quiet (mod_drewN _ _)⟩
                     case measure => simp [intOf]; omega
                   case false =>
                     go_quiet (fail)
                     go_wp2_with fail
                     go_roundw
                     case rel => exact ⟨m + 1, kk + 1, by go_num, by omega, by rw [HS.out.1]; simp, by rw [HS.out.2]; simp, by go_num, by omega, HE1.out, HL3.out.quiet (mod_drewN _ _)⟩
                     case measure => simp [intOf]; omega
                 · by_cases hkl : kk < was.length
                   · rw [drop_next hkl] at hne
                     obtain ⟨b4, o4, k4, hv4, hb4, -, hcw⟩ := own_at HL1.out.was (by omega)
                     subst hv4
                     have hiw := ixR (P := Tryd.prog) 27 39 Tryd.underlying27 7 sizeEnt _ b4 o4 was.length k4 kk rfl hkl
                     obtain ⟨oe, ho⟩ : ∃ oe, was[kk] = oe := ⟨_, rfl⟩
                     have hcw' := hcw kk hkl
                     rw [ho] at hcw' hne
                     have hne1 := hne oe rfl
                     obtain ⟨p1, p2, p3, p4, p5, p6, p7⟩ := oe
                     have hne2 : ¬ p1 = q1 := hne1
                     have z0 : W1.cell? ⟨b4, o4 + kk * 7, none⟩ = some (.int .i64 p1) := by have h := hcw' 0 (by decide); rw [Nat.add_zero] at h; exact h
                     have hd4 : (kk : Int) < (was.length : Int) := by omega
                     have HE1 := Lib.hid hext
                     clear hcw hcw' ho hne hne1 hext
                     go_quiet (fail)
                     go_wp2_with fail
                     go_roundw
                     case rel => exact ⟨m + 1, kk, by go_num, by omega, by rw [HS.out.1]; simp, by rw [HS.out.2]; simp, rfl, hkk, HE1.out, HL1.out.quiet (mod_drewN _ _)⟩
                     case measure => simp [intOf]; omega
                   · obtain ⟨a4, k4, hv4, -, -⟩ := owns_shape HL1.out.was
                     subst hv4
                     have hd4 : ¬ (kk : Int) < (was.length : Int) := by omega
                     have HE1 := Lib.hid hext
                     clear hne hext
                     go_quiet (fail)
                     go_wp2_with fail
                     go_roundw
                     case rel => exact ⟨m + 1, kk, by go_num, by omega, by rw [HS.out.1]; simp, by rw [HS.out.2]; simp, rfl, hkk, HE1.out, HL1.out.quiet (mod_drewN _ _)⟩
                     case measure => simp [intOf]; omega)
              · obtain ⟨p, hp⟩ : ∃ p, p + 1 = m := ⟨m - 1, by omega⟩
                obtain ⟨hy, hlt2⟩ := HPrev.out p hp
                have hixp := HIx0.out p hp
                have hpl : p < all.length := by omega
                obtain ⟨qp, hqp⟩ : ∃ q, all[p].uid = q := ⟨_, rfl⟩
                have y0 : wr.cell? ⟨b7, o7 + p * 7, none⟩ = some (.int .i64 qp) := by rw [Nat.add_zero] at hy; rw [← hqp]; exact hy
                have hd3 : ¬ q1 ≤ qp := by rw [he] at hlt2; rw [hqp] at hlt2; simpa using hlt2
                have hsub : IntKind.i64.wrap ((m : Int) - 1) = (p : Int) := by rw [IntKind.wrap_i64] <;> omega
                have hd2 : (0 : Int) < (m : Int) := by omega
                have hd2' : 0 < m := by omega
                clear hy hlt2 hqp h0
                go_wp2_with fail
                go_quiet ((go_at_call 19; exact quiet_eq (HNx.out _ (HL.out.mw.mb.quiet (mod_drewN _ _)))))
                go_wp2_with fail
                clear y0 hixp hsub hd3
                (have HM1 := Lib.hid (HM0.out nq)
                 have HL1 := Lib.hid (HL.out.quiet HM1.out)
                 generalize wr.drewN nq = W1 at HM1 HL1 ⊢
                 clear x0 x1 x2 x3 x4 x5 x6
                 have x0 := HM1.out.cell HX0.out (by simp)
                 have x1 := HM1.out.cell HX1.out (by simp)
                 have x2 := HM1.out.cell HX2.out (by simp)
                 have x3 := HM1.out.cell HX3.out (by simp)
                 have x4 := HM1.out.cell HX4.out (by simp)
                 have x5 := HM1.out.cell HX5.out (by simp)
                 have x6 := HM1.out.cell HX6.out (by simp)
                 rcases HExt.out.cons_inv with ⟨oe, r', hdr, hou, hok, hext⟩ | ⟨hne, hext⟩
                 · have hkl : kk < was.length := by
                     rcases Nat.lt_or_ge kk was.length with h | h
                     · exact h
                     · rw [List.drop_eq_nil_of_le h] at hdr; cases hdr
                   rw [drop_next hkl] at hdr
                   simp only [List.cons.injEq] at hdr
                   obtain ⟨ho, rfl⟩ := hdr
                   obtain ⟨b4, o4, k4, hv4, hb4, -, hcw⟩ := own_at HL1.out.was (by omega)
                   subst hv4
                   have hiw := ixR (P := Tryd.prog) 27 39 Tryd.underlying27 7 sizeEnt _ b4 o4 was.length k4 kk rfl hkl
                   have hcw' := hcw kk hkl
                   rw [ho] at hcw'
                   obtain ⟨p1, p2, p3, p4, p5, p6, p7⟩ := oe
                   have hp1 : p1 = q1 := hou
                   have hp4 : p4 = q4 := hok.body
                   have hp5 : p5 = q5 := hok.size
                   have hp6 : p6 = q6 := hok.org
                   subst hp1 hp4 hp5 hp6
                   have z0 : W1.cell? ⟨b4, o4 + kk * 7, none⟩ = some (.int .i64 p1) := by have h := hcw' 0 (by decide); rw [Nat.add_zero] at h; exact h
                   have z1 : W1.cell? ⟨b4, o4 + kk * 7 + 1, none⟩ = some (.int .i64 p2) := hcw' 1 (by decide)
                   have z2 : W1.cell? ⟨b4, o4 + kk * 7 + 2, none⟩ = some (.int .i64 p3) := hcw' 2 (by decide)
                   have z3 : W1.cell? ⟨b4, o4 + kk * 7 + 3, none⟩ = some (.int .i64 p4) := hcw' 3 (by decide)
                   have z4 : W1.cell? ⟨b4, o4 + kk * 7 + 4, none⟩ = some (.int .i64 p5) := hcw' 4 (by decide)
                   have z5 : W1.cell? ⟨b4, o4 + kk * 7 + 5, none⟩ = some (.int .i64 p6) := hcw' 5 (by decide)
                   have z6 : W1.cell? ⟨b4, o4 + kk * 7 + 6, none⟩ = some (.bool p7) := hcw' 6 (by decide)
                   have hd4 : (kk : Int) < (was.length : Int) := by omega
                   have hwk : IntKind.i64.wrap ((kk : Int) + 1) = ((kk + 1 : Nat) : Int) := by have := HWas.out; rw [IntKind.wrap_i64] <;> omega
                   have HGo := Lib.hid hok.gone
                   have HE1 := Lib.hid hext
                   clear hcw hcw' ho hou hok hext
                   go_quiet (fail)
                   have HM2 := Lib.hid (mod_drewN W1 nq)
                   have HL2 := Lib.hid (HL1.out.quiet HM2.out)
                   generalize W1.drewN nq = W2 at HM2 HL2 ⊢
                   replace x0 := HM2.out.cell x0 (by simp)
                   replace x1 := HM2.out.cell x1 (by simp)
                   replace x2 := HM2.out.cell x2 (by simp)
                   replace x3 := HM2.out.cell x3 (by simp)
                   replace x4 := HM2.out.cell x4 (by simp)
                   replace x5 := HM2.out.cell x5 (by simp)
                   replace x6 := HM2.out.cell x6 (by simp)
                   replace z0 := HM2.out.cell z0 (by simp)
                   replace z1 := HM2.out.cell z1 (by simp)
                   replace z2 := HM2.out.cell z2 (by simp)
                   replace z3 := HM2.out.cell z3 (by simp)
                   replace z4 := HM2.out.cell z4 (by simp)
                   replace z5 := HM2.out.cell z5 (by simp)
                   replace z6 := HM2.out.cell z6 (by simp)
                   go_wp2_with fail
                   have hm3 := (Mod.refl [] W2).alloc (.cells #[.int .i64 p1, .int .i64 p2, .int .i64 p3, .int .i64 p4, .int .i64 p5, .int .i64 p6, .bool p7] 39)
                   have HM3 := Lib.hid hm3
                   have HN := Lib.hid (heap_alloc_new W2 (.cells #[.int .i64 p1, .int .i64 p2, .int .i64 p3, .int .i64 p4, .int .i64 p5, .int .i64 p6, .bool p7] 39))
                   have HL3 := Lib.hid (HL2.out.quiet hm3)
                   clear hm3 z0 z1 z2 z3 z4 z5 z6 hiw
                   generalize W2.alloc (.cells #[.int .i64 p1, .int .i64 p2, .int .i64 p3, .int .i64 p4, .int .i64 p5, .int .i64 p6, .bool p7] 39) = W3 at HM3 HN HL3 ⊢
                   generalize W2.heap.size = g12 at HN ⊢
                   replace x0 := HM3.out.cell x0 (by simp)
                   replace x1 := HM3.out.cell x1 (by simp)
                   replace x2 := HM3.out.cell x2 (by simp)
                   replace x3 := HM3.out.cell x3 (by simp)
                   replace x4 := HM3.out.cell x4 (by simp)
                   replace x5 := HM3.out.cell x5 (by simp)
                   replace x6 := HM3.out.cell x6 (by simp)
                   have n0 := blk_cell HN.out 0
                   have n1 := blk_cell HN.out 1
                   have n2 := blk_cell HN.out 2
                   have n3 := blk_cell HN.out 3
                   have n4 := blk_cell HN.out 4
                   have n5 := blk_cell HN.out 5
                   have n6 := blk_cell HN.out 6
                   cases p7
                   case true =>
                     have hge := HGo.out rfl
                     simp only [Ent.mk.injEq, true_and, and_true, Bool.true_eq_false, Bool.false_eq_true, and_false] at hge
                     try (exact hge.elim)
                     try obtain ⟨rfl, rfl⟩ := hge
                     all_goals
                       go_quiet (fail)
                       go_wp2_with fail
                       go_roundw
                     case rel => exact ⟨m + 1, kk + 1, by go_num, by omega, by rw [HS.out.1]; simp, by rw [HS.out.2]; simp, by go_num, by omega, HE1.out, HL3.out.quiet (mod_drewN _ _)⟩
                     case measure => simp [intOf]; omega
                   case false =>
                     go_quiet (fail)
                     go_wp2_with fail
                     go_roundw
                     case rel => exact ⟨m + 1, kk + 1, by go_num, by omega, by rw [HS.out.1]; simp, by rw [HS.out.2]; simp, by go_num, by omega, HE1.out, HL3.out.quiet (mod_drewN _ _)⟩
                     case measure => simp [intOf]; omega
                 · by_cases hkl : kk < was.length
                   · rw [drop_next hkl] at hne
                     obtain ⟨b4, o4, k4, hv4, hb4, -, hcw⟩ := own_at HL1.out.was (by omega)
                     subst hv4
                     have hiw := ixR (P := Tryd.prog) 27 39 Tryd.underlying27 7 sizeEnt _ b4 o4 was.length k4 kk rfl hkl
                     obtain ⟨oe, ho⟩ : ∃ oe, was[kk] = oe := ⟨_, rfl⟩
                     have hcw' := hcw kk hkl
                     rw [ho] at hcw' hne
                     have hne1 := hne oe rfl
                     obtain ⟨p1, p2, p3, p4, p5, p6, p7⟩ := oe
                     have hne2 : ¬ p1 = q1 := hne1
                     have z0 : W1.cell? ⟨b4, o4 + kk * 7, none⟩ = some (.int .i64 p1) := by have h := hcw' 0 (by decide); rw [Nat.add_zero] at h; exact h
                     have hd4 : (kk : Int) < (was.length : Int) := by omega
                     have HE1 := Lib.hid hext
                     clear hcw hcw' ho hne hne1 hext
                     go_quiet (fail)
                     go_wp2_with fail
                     go_roundw
                     case rel => exact ⟨m + 1, kk, by go_num, by omega, by rw [HS.out.1]; simp, by rw [HS.out.2]; simp, rfl, hkk, HE1.out, HL1.out.quiet (mod_drewN _ _)⟩
                     case measure => simp [intOf]; omega
                   · obtain ⟨a4, k4, hv4, -, -⟩ := owns_shape HL1.out.was
                     subst hv4
                     have hd4 : ¬ (kk : Int) < (was.length : Int) := by omega
                     have HE1 := Lib.hid hext
                     clear hne hext
                     go_quiet (fail)
                     go_wp2_with fail
                     go_roundw
                     case rel => exact ⟨m + 1, kk, by go_num, by omega, by rw [HS.out.1]; simp, by rw [HS.out.2]; simp, rfl, hkk, HE1.out, HL1.out.quiet (mod_drewN _ _)⟩
                     case measure => simp [intOf]; omega)
            case false =>
              have hwb := hbs rfl
              have hwc := hcs rfl
              clear hbs hcs
              rcases Nat.eq_zero_or_pos m with h0 | h0
              · have hd2 : ¬ (0 : Int) < (m : Int) := by omega
                have hd2' : ¬ 0 < m := by omega
                clear h0
                go_wp2_with fail
                go_quiet ((go_at_call 19; exact quiet_eq (HNx.out _ (HL.out.mw.mb.quiet (mod_drewN _ _)))))
                go_wp2_with fail
                (have HM1 := Lib.hid (HM0.out nq)
                 have HL1 := Lib.hid (HL.out.quiet HM1.out)
                 generalize wr.drewN nq = W1 at HM1 HL1 ⊢
                 clear x0 x1 x2 x3 x4 x5 x6
                 have x0 := HM1.out.cell HX0.out (by simp)
                 have x1 := HM1.out.cell HX1.out (by simp)
                 have x2 := HM1.out.cell HX2.out (by simp)
                 have x3 := HM1.out.cell HX3.out (by simp)
                 have x4 := HM1.out.cell HX4.out (by simp)
                 have x5 := HM1.out.cell HX5.out (by simp)
                 have x6 := HM1.out.cell HX6.out (by simp)
                 rcases HExt.out.cons_inv with ⟨oe, r', hdr, hou, hok, hext⟩ | ⟨hne, hext⟩
                 · have hkl : kk < was.length := by
                     rcases Nat.lt_or_ge kk was.length with h | h
                     · exact h
                     · rw [List.drop_eq_nil_of_le h] at hdr; cases hdr
                   rw [drop_next hkl] at hdr
                   simp only [List.cons.injEq] at hdr
                   obtain ⟨ho, rfl⟩ := hdr
                   obtain ⟨b4, o4, k4, hv4, hb4, -, hcw⟩ := own_at HL1.out.was (by omega)
                   subst hv4
                   have hiw := ixR (P := Tryd.prog) 27 39 Tryd.underlying27 7 sizeEnt _ b4 o4 was.length k4 kk rfl hkl
                   have hcw' := hcw kk hkl
                   rw [ho] at hcw'
                   obtain ⟨p1, p2, p3, p4, p5, p6, p7⟩ := oe
                   have hp1 : p1 = q1 := hou
                   have hp4 : p4 = q4 := hok.body
                   have hp5 : p5 = q5 := hok.size
                   have hp6 : p6 = q6 := hok.org
                   subst hp1 hp4 hp5 hp6
                   have z0 : W1.cell? ⟨b4, o4 + kk * 7, none⟩ = some (.int .i64 p1) := by have h := hcw' 0 (by decide); rw [Nat.add_zero] at h; exact h
                   have z1 : W1.cell? ⟨b4, o4 + kk * 7 + 1, none⟩ = some (.int .i64 p2) := hcw' 1 (by decide)
                   have z2 : W1.cell? ⟨b4, o4 + kk * 7 + 2, none⟩ = some (.int .i64 p3) := hcw' 2 (by decide)
                   have z3 : W1.cell? ⟨b4, o4 + kk * 7 + 3, none⟩ = some (.int .i64 p4) := hcw' 3 (by decide)
                   have z4 : W1.cell? ⟨b4, o4 + kk * 7 + 4, none⟩ = some (.int .i64 p5) := hcw' 4 (by decide)
                   have z5 : W1.cell? ⟨b4, o4 + kk * 7 + 5, none⟩ = some (.int .i64 p6) := hcw' 5 (by decide)
                   have z6 : W1.cell? ⟨b4, o4 + kk * 7 + 6, none⟩ = some (.bool p7) := hcw' 6 (by decide)
                   have hd4 : (kk : Int) < (was.length : Int) := by omega
                   have hwk : IntKind.i64.wrap ((kk : Int) + 1) = ((kk + 1 : Nat) : Int) := by have := HWas.out; rw [IntKind.wrap_i64] <;> omega
                   have HGo := Lib.hid hok.gone
                   have HE1 := Lib.hid hext
                   clear hcw hcw' ho hou hok hext
                   go_quiet (fail)
                   have HM2 := Lib.hid (mod_drewN W1 nq)
                   have HL2 := Lib.hid (HL1.out.quiet HM2.out)
                   generalize W1.drewN nq = W2 at HM2 HL2 ⊢
                   replace x0 := HM2.out.cell x0 (by simp)
                   replace x1 := HM2.out.cell x1 (by simp)
                   replace x2 := HM2.out.cell x2 (by simp)
                   replace x3 := HM2.out.cell x3 (by simp)
                   replace x4 := HM2.out.cell x4 (by simp)
                   replace x5 := HM2.out.cell x5 (by simp)
                   replace x6 := HM2.out.cell x6 (by simp)
                   replace z0 := HM2.out.cell z0 (by simp)
                   replace z1 := HM2.out.cell z1 (by simp)
                   replace z2 := HM2.out.cell z2 (by simp)
                   replace z3 := HM2.out.cell z3 (by simp)
                   replace z4 := HM2.out.cell z4 (by simp)
                   replace z5 := HM2.out.cell z5 (by simp)
                   replace z6 := HM2.out.cell z6 (by simp)
                   go_wp2_with fail
                   have hm3 := (Mod.refl [] W2).alloc (.cells #[.int .i64 p1, .int .i64 p2, .int .i64 p3, .int .i64 p4, .int .i64 p5, .int .i64 p6, .bool p7] 39)
                   have HM3 := Lib.hid hm3
                   have HN := Lib.hid (heap_alloc_new W2 (.cells #[.int .i64 p1, .int .i64 p2, .int .i64 p3, .int .i64 p4, .int .i64 p5, .int .i64 p6, .bool p7] 39))
                   have HL3 := Lib.hid (HL2.out.quiet hm3)
                   clear hm3 z0 z1 z2 z3 z4 z5 z6 hiw
                   generalize W2.alloc (.cells #[.int .i64 p1, .int .i64 p2, .int .i64 p3, .int .i64 p4, .int .i64 p5, .int .i64 p6, .bool p7] 39) = W3 at HM3 HN HL3 ⊢
                   generalize W2.heap.size = g12 at HN ⊢
                   replace x0 := HM3.out.cell x0 (by simp)
                   replace x1 := HM3.out.cell x1 (by simp)
                   replace x2 := HM3.out.cell x2 (by simp)
                   replace x3 := HM3.out.cell x3 (by simp)
                   replace x4 := HM3.out.cell x4 (by simp)
                   replace x5 := HM3.out.cell x5 (by simp)
                   replace x6 := HM3.out.cell x6 (by simp)
                   have n0 := blk_cell HN.out 0
                   have n1 := blk_cell HN.out 1
                   have n2 := blk_cell HN.out 2
                   have n3 := blk_cell HN.out 3
                   have n4 := blk_cell HN.out 4
                   have n5 := blk_cell HN.out 5
                   have n6 := blk_cell HN.out 6
                   cases p7
                   case true =>
                     exact absurd (congrArg Ent.gone (HGo.out rfl)) (by simp)
                   case false =>
                     go_quiet (fail)
                     go_wp2_with fail
                     go_roundw
                     case rel => exact ⟨m + 1, kk + 1, by go_num, by omega, by rw [HS.out.1]; simp, by rw [HS.out.2]; simp, by go_num, by omega, HE1.out, HL3.out.quiet (mod_drewN _ _)⟩
                     case measure => simp [intOf]; omega
                 · by_cases hkl : kk < was.length
                   · rw [drop_next hkl] at hne
                     obtain ⟨b4, o4, k4, hv4, hb4, -, hcw⟩ := own_at HL1.out.was (by omega)
                     subst hv4
                     have hiw := ixR (P := Tryd.prog) 27 39 Tryd.underlying27 7 sizeEnt _ b4 o4 was.length k4 kk rfl hkl
                     obtain ⟨oe, ho⟩ : ∃ oe, was[kk] = oe := ⟨_, rfl⟩
                     have hcw' := hcw kk hkl
                     rw [ho] at hcw' hne
                     have hne1 := hne oe rfl
                     obtain ⟨p1, p2, p3, p4, p5, p6, p7⟩ := oe
                     have hne2 : ¬ p1 = q1 := hne1
                     have z0 : W1.cell? ⟨b4, o4 + kk * 7, none⟩ = some (.int .i64 p1) := by have h := hcw' 0 (by decide); rw [Nat.add_zero] at h; exact h
                     have hd4 : (kk : Int) < (was.length : Int) := by omega
                     have HE1 := Lib.hid hext
                     clear hcw hcw' ho hne hne1 hext
                     go_quiet (fail)
                     go_wp2_with fail
                     go_roundw
                     case rel => exact ⟨m + 1, kk, by go_num, by omega, by rw [HS.out.1]; simp, by rw [HS.out.2]; simp, rfl, hkk, HE1.out, HL1.out.quiet (mod_drewN _ _)⟩
                     case measure => simp [intOf]; omega
                   · obtain ⟨a4, k4, hv4, -, -⟩ := owns_shape HL1.out.was
                     subst hv4
                     have hd4 : ¬ (kk : Int) < (was.length : Int) := by omega
                     have HE1 := Lib.hid hext
                     clear hne hext
                     go_quiet (fail)
                     go_wp2_with fail
                     go_roundw
                     case rel => exact ⟨m + 1, kk, by go_num, by omega, by rw [HS.out.1]; simp, by rw [HS.out.2]; simp, rfl, hkk, HE1.out, HL1.out.quiet (mod_drewN _ _)⟩
                     case measure => simp [intOf]; omega)
              · obtain ⟨p, hp⟩ : ∃ p, p + 1 = m := ⟨m - 1, by omega⟩
                obtain ⟨hy, hlt2⟩ := HPrev.out p hp
                have hixp := HIx0.out p hp
                have hpl : p < all.length := by omega
                obtain ⟨qp, hqp⟩ : ∃ q, all[p].uid = q := ⟨_, rfl⟩
                have y0 : wr.cell? ⟨b7, o7 + p * 7, none⟩ = some (.int .i64 qp) := by rw [Nat.add_zero] at hy; rw [← hqp]; exact hy
                have hd3 : ¬ q1 ≤ qp := by rw [he] at hlt2; rw [hqp] at hlt2; simpa using hlt2
                have hsub : IntKind.i64.wrap ((m : Int) - 1) = (p : Int) := by rw [IntKind.wrap_i64] <;> omega
                have hd2 : (0 : Int) < (m : Int) := by omega
                have hd2' : 0 < m := by omega
                clear hy hlt2 hqp h0
                go_wp2_with fail
                go_quiet ((go_at_call 19; exact quiet_eq (HNx.out _ (HL.out.mw.mb.quiet (mod_drewN _ _)))))
                go_wp2_with fail
                clear y0 hixp hsub hd3
                (have HM1 := Lib.hid (HM0.out nq)
                 have HL1 := Lib.hid (HL.out.quiet HM1.out)
                 generalize wr.drewN nq = W1 at HM1 HL1 ⊢
                 clear x0 x1 x2 x3 x4 x5 x6
                 have x0 := HM1.out.cell HX0.out (by simp)
                 have x1 := HM1.out.cell HX1.out (by simp)
                 have x2 := HM1.out.cell HX2.out (by simp)
                 have x3 := HM1.out.cell HX3.out (by simp)
                 have x4 := HM1.out.cell HX4.out (by simp)
                 have x5 := HM1.out.cell HX5.out (by simp)
                 have x6 := HM1.out.cell HX6.out (by simp)
                 rcases HExt.out.cons_inv with ⟨oe, r', hdr, hou, hok, hext⟩ | ⟨hne, hext⟩
                 · have hkl : kk < was.length := by
                     rcases Nat.lt_or_ge kk was.length with h | h
                     · exact h
                     · rw [List.drop_eq_nil_of_le h] at hdr; cases hdr
                   rw [drop_next hkl] at hdr
                   simp only [List.cons.injEq] at hdr
                   obtain ⟨ho, rfl⟩ := hdr
                   obtain ⟨b4, o4, k4, hv4, hb4, -, hcw⟩ := own_at HL1.out.was (by omega)
                   subst hv4
                   have hiw := ixR (P := Tryd.prog) 27 39 Tryd.underlying27 7 sizeEnt _ b4 o4 was.length k4 kk rfl hkl
                   have hcw' := hcw kk hkl
                   rw [ho] at hcw'
                   obtain ⟨p1, p2, p3, p4, p5, p6, p7⟩ := oe
                   have hp1 : p1 = q1 := hou
                   have hp4 : p4 = q4 := hok.body
                   have hp5 : p5 = q5 := hok.size
                   have hp6 : p6 = q6 := hok.org
                   subst hp1 hp4 hp5 hp6
                   have z0 : W1.cell? ⟨b4, o4 + kk * 7, none⟩ = some (.int .i64 p1) := by have h := hcw' 0 (by decide); rw [Nat.add_zero] at h; exact h
                   have z1 : W1.cell? ⟨b4, o4 + kk * 7 + 1, none⟩ = some (.int .i64 p2) := hcw' 1 (by decide)
                   have z2 : W1.cell? ⟨b4, o4 + kk * 7 + 2, none⟩ = some (.int .i64 p3) := hcw' 2 (by decide)
                   have z3 : W1.cell? ⟨b4, o4 + kk * 7 + 3, none⟩ = some (.int .i64 p4) := hcw' 3 (by decide)
                   have z4 : W1.cell? ⟨b4, o4 + kk * 7 + 4, none⟩ = some (.int .i64 p5) := hcw' 4 (by decide)
                   have z5 : W1.cell? ⟨b4, o4 + kk * 7 + 5, none⟩ = some (.int .i64 p6) := hcw' 5 (by decide)
                   have z6 : W1.cell? ⟨b4, o4 + kk * 7 + 6, none⟩ = some (.bool p7) := hcw' 6 (by decide)
                   have hd4 : (kk : Int) < (was.length : Int) := by omega
                   have hwk : IntKind.i64.wrap ((kk : Int) + 1) = ((kk + 1 : Nat) : Int) := by have := HWas.out; rw [IntKind.wrap_i64] <;> omega
                   have HGo := Lib.hid hok.gone
                   have HE1 := Lib.hid hext
                   clear hcw hcw' ho hou hok hext
                   go_quiet (fail)
                   have HM2 := Lib.hid (mod_drewN W1 nq)
                   have HL2 := Lib.hid (HL1.out.quiet HM2.out)
                   generalize W1.drewN nq = W2 at HM2 HL2 ⊢
                   replace x0 := HM2.out.cell x0 (by simp)
                   replace x1 := HM2.out.cell x1 (by simp)
                   replace x2 := HM2.out.cell x2 (by simp)
                   replace x3 := HM2.out.cell x3 (by simp)
                   replace x4 := HM2.out.cell x4 (by simp)
                   replace x5 := HM2.out.cell x5 (by simp)
                   replace x6 := HM2.out.cell x6 (by simp)
                   replace z0 := HM2.out.cell z0 (by simp)
                   replace z1 := HM2.out.cell z1 (by simp)
                   replace z2 := HM2.out.cell z2 (by simp)
                   replace z3 := HM2.out.cell z3 (by simp)
                   replace z4 := HM2.out.cell z4 (by simp)
                   replace z5 := HM2.out.cell z5 (by simp)
                   replace z6 := HM2.out.cell z6 (by simp)
                   go_wp2_with fail
                   have hm3 := (Mod.refl [] W2).alloc (.cells #[.int .i64 p1, .int .i64 p2, .int .i64 p3, .int .i64 p4, .int .i64 p5, .int .i64 p6, .bool p7] 39)
                   have HM3 := Lib.hid hm3
                   have HN := Lib.hid (heap_alloc_new W2 (.cells #[.int .i64 p1, .int .i64 p2, .int .i64 p3, .int .i64 p4, .int .i64 p5, .int .i64 p6, .bool p7] 39))
                   have HL3 := Lib.hid (HL2.out.quiet hm3)
                   clear hm3 z0 z1 z2 z3 z4 z5 z6 hiw
                   generalize W2.alloc (.cells #[.int .i64 p1, .int .i64 p2, .int .i64 p3, .int .i64 p4, .int .i64 p5, .int .i64 p6, .bool p7] 39) = W3 at HM3 HN HL3 ⊢
                   generalize W2.heap.size = g12 at HN ⊢
                   replace x0 := HM3.out.cell x0 (by simp)
                   replace x1 := HM3.out.cell x1 (by simp)
                   replace x2 := HM3.out.cell x2 (by simp)
                   replace x3 := HM3.out.cell x3 (by simp)
                   replace x4 := HM3.out.cell x4 (by simp)
                   replace x5 := HM3.out.cell x5 (by simp)
                   replace x6 := HM3.out.cell x6 (by simp)
                   have n0 := blk_cell HN.out 0
                   have n1 := blk_cell HN.out 1
                   have n2 := blk_cell HN.out 2
                   have n3 := blk_cell HN.out 3
                   have n4 := blk_cell HN.out 4
                   have n5 := blk_cell HN.out 5
                   have n6 := blk_cell HN.out 6
                   cases p7
                   case true =>
                     exact absurd (congrArg Ent.gone (HGo.out rfl)) (by simp)
                   case false =>
                     go_quiet (fail)
                     go_wp2_with fail
                     go_roundw
                     case rel => exact ⟨m + 1, kk + 1, by go_num, by omega, by rw [HS.out.1]; simp, by rw [HS.out.2]; simp, by go_num, by omega, HE1.out, HL3.out.quiet (mod_drewN _ _)⟩
                     case measure => simp [intOf]; omega
                 · by_cases hkl : kk < was.length
                   · rw [drop_next hkl] at hne
                     obtain ⟨b4, o4, k4, hv4, hb4, -, hcw⟩ := own_at HL1.out.was (by omega)
                     subst hv4
                     have hiw := ixR (P := Tryd.prog) 27 39 Tryd.underlying27 7 sizeEnt _ b4 o4 was.length k4 kk rfl hkl
                     obtain ⟨oe, ho⟩ : ∃ oe, was[kk] = oe := ⟨_, rfl⟩
                     have hcw' := hcw kk hkl
                     rw [ho] at hcw' hne
                     have hne1 := hne oe rfl
                     obtain ⟨p1, p2, p3, p4, p5, p6, p7⟩ := oe
                     have hne2 : ¬ p1 = q1 := hne1
                     have z0 : W1.cell? ⟨b4, o4 + kk * 7, none⟩ = some (.int .i64 p1) := by have h := hcw' 0 (by decide); rw [Nat.add_zero] at h; exact h
                     have hd4 : (kk : Int) < (was.length : Int) := by omega
                     have HE1 := Lib.hid hext
                     clear hcw hcw' ho hne hne1 hext
                     go_quiet (fail)
                     go_wp2_with fail
                     go_roundw
                     case rel => exact ⟨m + 1, kk, by go_num, by omega, by rw [HS.out.1]; simp, by rw [HS.out.2]; simp, rfl, hkk, HE1.out, HL1.out.quiet (mod_drewN _ _)⟩
                     case measure => simp [intOf]; omega
                   · obtain ⟨a4, k4, hv4, -, -⟩ := owns_shape HL1.out.was
                     subst hv4
                     have hd4 : ¬ (kk : Int) < (was.length : Int) := by omega
                     have HE1 := Lib.hid hext
                     clear hne hext
                     go_quiet (fail)
                     go_wp2_with fail
                     go_roundw
                     case rel => exact ⟨m + 1, kk, by go_num, by omega, by rw [HS.out.1]; simp, by rw [HS.out.2]; simp, rfl, hkk, HE1.out, HL1.out.quiet (mod_drewN _ _)⟩
                     case measure => simp [intOf]; omega)
          · have hme : m = all.length := by omega
            have hd5 : ¬ (m : Int) < (all.length : Int) := by omega
            have hex := HX.out
            rw [hme, List.drop_length] at hex
            have hkw : kk = was.length := by
              have := hex.nil_inv
              rw [List.drop_eq_nil_iff] at this
              omega
            have he1 : szL (all.take m) = szL all := by rw [hme, List.take_length]
            have he2 : ctL (all.take m) = ctL all := by rw [hme, List.take_length]
            rw [he1, he2]
            clear hex he1 he2 HX hml
            obtain ⟨nx1, hnx⟩ : ∃ x, b1.next = x := ⟨_, rfl⟩
            have HNx := Lib.hid (fun W h => next_is hnx W g ge go (2 * k + 2) h)
            have HUs := Lib.hid (fun W h => use_is HSumB.out HSumC.out W g ge go (2 * k + 2) h)
            have hmono := HMono.out
            rw [hnx] at hmono
            have hd6 : ¬ nx1 < nx0 := by omega
            have HNe := Lib.hid hnx
            obtain ⟨a4, k4, hv4, -, -⟩ := owns_shape HL.out.was
            subst hv4
            clear hnx hmono hkk hm
            rw [hkw]
            clear hkw hme
            generalize szL all = sb at *
            generalize ctL all = sc at *
            have H := Lib.hid HL.out
            go_wp2_with (first
              | (go_at_call 19; (refine (HNx.out _ H.out.mw.mb).mono ?_); rintro e wn ⟨rfl, rfl⟩)
              | (go_at_call 20; (refine (HUs.out _ H.out.mw.mb).mono ?_); rintro e wn ⟨rfl, hm⟩; have H := Lib.hid (H.out.quiet hm); clear hm))
            go_roundw
            case rel => exact ⟨k + 1, by go_num, by omega, by rw [HRn.out]; exact H.out.mw, by rw [HRn.out, HNe.out], by rw [HRn.out, HAll.out]; exact H.out.all⟩
            case measure => simp [intOf]; omega
      · have hkl : k = rs.length := by omega
        have hd7 : ¬ (k : Int) < (rs.length : Int) := by omega
        clear hkl hk
        go_wp2_with fail
        go_ret
        exact ⟨rfl, HW.out.mod⟩
end Go.Proofs.YtfcdapicemlfgaaDoor
