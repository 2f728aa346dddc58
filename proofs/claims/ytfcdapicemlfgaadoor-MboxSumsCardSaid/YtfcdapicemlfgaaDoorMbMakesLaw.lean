/- MboxMakes: a record that is made for a new message is taken, if its fields are right. -/
import Derived.Test.YtfcdapicemlfgaaDoorMbW
import Derived.Test.YtfcdapicemlfgaaDoorRcJ
namespace Go.Proofs.YtfcdapicemlfgaaDoor
open Go.ChangeShapes Go.WideShapes Go.ChangeAt Go.RowKit
open Qu
set_option linter.unusedVariables false
set_option linter.unusedSimpArgs false

/-- the mailbox that records make -/
def runX (rs : List Rc) : Bx := rs.foldl (fun b r => (boxX b r).1) newX
theorem runX_next {rs : List Rc} {k : Nat} (h : k < rs.length) : runX (rs.take (k + 1)) = (boxX (runX (rs.take k)) (rs.getD k Rc.none)).1 := by
  rw [take_getD rs h]; unfold runX; rw [List.foldl_append]; rfl
theorem runX_inv : ∀ (k : Nat) (rs : List Rc), k ≤ rs.length → InvX (runX (rs.take k)) k ∧ SzX (runX (rs.take k))
  | 0, rs, _ => ⟨InvX.new, SzX.new⟩
  | k + 1, rs, h => by
    obtain ⟨h1, h2⟩ := runX_inv k rs (by omega)
    rw [runX_next (by omega)]
    exact ⟨h1.box h2 _, h2.box _⟩
theorem get_is {b : Bx} {k : Int} {e : Ent} (hx : findI b.L k = some e) (w : World) (g ge go n : Nat) (h : MB w g ge go n b) (hk0 : -9223372036854775808 ≤ k) (hk1 : k ≤ 9223372036854775807) : Calls Tryd.prog 14 #[.pointer (some ⟨g, 0, none⟩), .int .i64 k] w fun x w' => x = .returned (.tuple #[.agg (entC e), .bool true]) ∧ Mod [] w w' := by
  have h1 := get_any w g ge go n b h k hk0 hk1
  unfold EntP at h1
  rw [hx] at h1
  exact h1
theorem same_self (x : Rc) : sameB x x = true := by simp [sameB]
/-- a mailbox, its use and a record made for it in memory -/
structure LW (w0 w : World) (g ge go n : Nat) (b : Bx) (gu gr : Nat) (cs ct : Array Value) : Prop where
  mw : MW w0 w g ge go n b
  u : w.heap[gu]? = some (.cells cs 49 (0, 0))
  r : w.heap[gr]? = some (.cells ct 35 (0, 0))
theorem LW.quiet {w0 w w' : World} {g ge go n : Nat} {b : Bx} {gu gr : Nat} {cs ct : Array Value} (h : LW w0 w g ge go n b gu gr cs ct) (hm : Mod [] w w') : LW w0 w' g ge go n b gu gr cs ct := ⟨h.mw.quiet hm, hm.row h.u (by simp), hm.row h.r (by simp)⟩
theorem LW.step {w0 w w' : World} {g ge go n n' : Nat} {b b' : Bx} {gu gr : Nat} {cs ct : Array Value} (h : LW w0 w g ge go n b gu gr cs ct) (hb : MB w' g ge go n' b') (hm : Mod [g, ge, go] w w') : LW w0 w' g ge go n' b' gu gr cs ct := by
  have a := h.mw.mb
  have hx : ∀ {x : Nat} {cs : Array Value} {t : TypeId}, w.heap[x]? = some (.cells cs t (0, 0)) → t ≠ 65 → x ∉ [g, ge, go] := by
    intro x cs t h1 h2 h3
    simp only [List.mem_cons, List.not_mem_nil, or_false] at h3
    rcases h3 with rfl | rfl | rfl
    · have := a.row; rw [h1] at this; simp at this; exact h2 this.2
    · obtain ⟨_, _, h4, _⟩ := a.ents; rw [h1] at h4; cases h4
    · obtain ⟨_, _, h4, _⟩ := a.orgs; rw [h1] at h4; cases h4
  exact ⟨h.mw.step hb hm, hm.row h.u (hx h.u (by decide)), hm.row h.r (hx h.r (by decide))⟩
set_option maxRecDepth 100000 in
set_option maxHeartbeats 16000000 in
theorem qmakes_any (a : Option Addr) (n0 cap : Nat) (rs : List Rc) (time flags body size org : Int) (w : World) (hC : InRecs w a rs) (hn : n0 = rs.length) (hl : rs.length ≤ 9223372036854775807) (ht : Forms w) :
    Calls Tryd.prog 4 #[.slice a n0 cap, .int .i64 time, .int .i64 flags, .int .i64 body, .int .i64 size, .int .i64 org] w fun e w' => e = .returned (.bool true) ∧ Mod [] w w' := by
  subst hn
  have HAw := Lib.hid (awake_any w ht)
  have HT := Lib.hid ht
  have HC := Lib.hid hC
  have HFw := Lib.hid (fun W (h : InRecs W a rs) => few_any W a cap rs h hl)
  clear ht hC
  cases hf : fewB rs
  case false =>
    rw [hf] at HFw
    clear hf hl
    go_enter Tryd.func4, Tryd.ntmps4
    go_wp2_with (first | (go_at_call 7; (refine HAw.out.mono ?_); rintro e w1 ⟨rfl, hm⟩; have HM1 := Lib.hid hm; clear hm) | (go_at_call 8; (refine (HFw.out _ (HC.out.quiet HM1.out)).mono ?_); rintro e w2 ⟨rfl, hm⟩; have HM2 := Lib.hid (HM1.out.trans hm); clear hm))
    go_ret
    exact ⟨rfl, HM2.out⟩
  case true =>
    rw [hf] at HFw
    have h40 : rs.length ≤ 40 := by
      unfold fewB at hf
      rw [Bool.and_eq_true, decide_eq_true_eq] at hf
      exact hf.1
    have HNw := Lib.hid new_any
    unfold NewP at HNw
    clear hf hl
    go_enter Tryd.func4, Tryd.ntmps4
    go_wp2_with (first | (go_at_call 7; (refine HAw.out.mono ?_); rintro e w1 ⟨rfl, hm⟩; have HM1 := Lib.hid hm; clear hm) | (go_at_call 8; (refine (HFw.out _ (HC.out.quiet HM1.out)).mono ?_); rintro e w2 ⟨rfl, hm⟩; have HM2 := Lib.hid (HM1.out.trans hm); clear hm) | (go_at_call 9; (refine (HNw.out _).mono ?_); rintro e w3 ⟨g, ge, go, rfl, hb, hm, h1, h2, h3⟩; have H3 := Lib.hid (show MW w w3 g ge go (2 * 0) (runX (rs.take 0)) from ⟨hb, HM2.out.trans hm, by have := HM2.out.size; omega⟩); clear hb hm h1 h2 h3))
    clear HAw HFw HNw HM1 HM2
    go_loopw [14] (fun v wr => ∃ k : Nat, v = .int .i64 k ∧ k ≤ rs.length ∧ MW w wr g ge go (2 * k) (runX (rs.take k))) (fun v _ => rs.length - (intOf v).toNat)
    case atStart => exact ⟨0, rfl, Nat.zero_le _, H3.out⟩
    case round =>
      obtain ⟨k, rfl, hk, hw⟩ := hrel
      have HW := Lib.hid hw
      clear hw
      by_cases hlt : k < rs.length
      · obtain ⟨b, o, ha, pa, pc, hc, hin⟩ := (HC.out.quiet HW.out.mod).get hlt
        have hix := ixR (P := Tryd.prog) 22 35 Tryd.underlying22 12 sizeRec a b o rs.length cap k ha hlt
        have hT := take20_any _ g ge go _ _ HW.out.mb (by omega) (rs.getD k Rc.none) hin.1 pa pc hin.2.2 (HW.out.forms HT.out)
        unfold BoxP at hT
        have HRn := Lib.hid (runX_next hlt)
        obtain ⟨r, hr⟩ : ∃ r, rs.getD k Rc.none = r := ⟨_, rfl⟩
        rw [hr] at hc hT HRn
        obtain ⟨rb, hrb⟩ : ∃ rb, boxX (runX (rs.take k)) r = rb := ⟨_, rfl⟩
        rw [hrb] at hT HRn
        obtain ⟨b1, c1⟩ := rb
        dsimp only at hT HRn
        have HTk := Lib.hid hT
        clear hr ha hin hT hrb
        have c0 := hc 0 (by decide)
        rw [Nat.add_zero] at c0
        have c1 := hc 1 (by decide)
        have c2 := hc 2 (by decide)
        have c3 := hc 3 (by decide)
        have c4 := hc 4 (by decide)
        have c5 := hc 5 (by decide)
        have c6 := hc 6 (by decide)
        have c7 := hc 7 (by decide)
        have c8 := hc 8 (by decide)
        have c9 := hc 9 (by decide)
        have c10 := hc 10 (by decide)
        have c11 := hc 11 (by decide)
        clear hc
        go_wp2_with (go_at_call 12; (refine HTk.out.mono ?_); rintro e w4 ⟨rfl, hb, hm⟩; have H4 := Lib.hid (HW.out.step hb hm); clear hb hm)
        go_roundw
        case rel => exact ⟨k + 1, by go_num, by omega, by rw [HRn.out]; exact H4.out⟩
        case measure => simp [intOf]; omega
      · have hkl : k = rs.length := by omega
        have HI := Lib.hid (runX_inv k rs hk)
        generalize runX (rs.take k) = b at *
        have hk40 : k ≤ 40 := by omega
        clear hkl hk H3
        obtain ⟨nx, hnx⟩ : ∃ x, b.next = x := ⟨_, rfl⟩
        obtain ⟨ub, hub⟩ : ∃ x, b.ub = x := ⟨_, rfl⟩
        obtain ⟨uc, huc⟩ : ∃ x, b.uc = x := ⟨_, rfl⟩
        have hMk := fun W h => make_any W g ge go (2 * k) b h time flags body size org
        rw [recA_make, hnx] at hMk
        have HMk := Lib.hid hMk
        have HNx := Lib.hid hnx
        have HUb := Lib.hid hub
        have HUc := Lib.hid huc
        clear hMk hnx hub huc
        go_wp2_with (first
          | (go_at_call 19; (refine (next_is HNx.out _ g ge go (2 * k) HW.out.mb).mono ?_); rintro e w4 ⟨rfl, rfl⟩)
          | (go_at_call 20; (refine (use_is HUb.out HUc.out _ g ge go (2 * k) HW.out.mb).mono ?_); rintro e w5 ⟨rfl, hm⟩; have hm' := hm.alloc (.cells (pr ub uc) 49); have H5 := Lib.hid (HW.out.quiet hm'); have HU5 := Lib.hid (heap_alloc_new w5 (.cells (pr ub uc) 49)); clear hm hm')
          | (go_at_call 21; (refine (HMk.out _ H5.out.mb).mono ?_); rintro e w6 ⟨rfl, hm⟩; have hm' := hm.alloc (.cells #[.int .i64 2, .int .i64 0, .int .i64 0, .int .i64 0, .int .i64 0, .int .i64 nx, .int .i64 time, .int .i64 flags, .int .i64 body, .int .i64 size, .int .i64 org, .slice none 0 0] 35); have H6 := Lib.hid (show LW w _ g ge go (2 * k) b w5.heap.size w6.heap.size (pr ub uc) #[.int .i64 2, .int .i64 0, .int .i64 0, .int .i64 0, .int .i64 0, .int .i64 nx, .int .i64 time, .int .i64 flags, .int .i64 body, .int .i64 size, .int .i64 org, .slice none 0 0] from ⟨H5.out.quiet hm', hm'.row HU5.out (by simp), heap_alloc_new w6 _⟩); clear hm hm'))
        generalize hWW : w6.alloc (.cells #[.int .i64 2, .int .i64 0, .int .i64 0, .int .i64 0, .int .i64 0, .int .i64 nx, .int .i64 time, .int .i64 flags, .int .i64 body, .int .i64 size, .int .i64 org, .slice none 0 0] 35) = W at *
        generalize w5.heap.size = gu at *
        generalize w6.heap.size = gr at *
        have hmk : recA (makeR b time flags body size org) none 0 = #[.int .i64 2, .int .i64 0, .int .i64 0, .int .i64 0, .int .i64 0, .int .i64 nx, .int .i64 time, .int .i64 flags, .int .i64 body, .int .i64 size, .int .i64 org, .slice none 0 0] := by rw [recA_make, HNx.out]
        have hSm := fun W => rsame_any (makeR b time flags body size org) (makeR b time flags body size org) rfl rfl none none 0 0 W (Cells8.nil _ _) (Cells8.nil _ _)
        rw [hmk, same_self] at hSm
        have hCk := fun W => rcheck_any (makeR b time flags body size org) rfl none 0 W (by simp [makeR]) (Cells8.nil _ _)
        rw [hmk] at hCk
        have hTk := fun (b' : Bx) (c : Bool) (hx : boxX b (makeR b time flags body size org) = (b', c)) W h f => take_is hx rfl (by simp [makeR]) (g := g) (ge := ge) (go := go) (n := 2 * k) (by omega) none 0 W h f
        rw [hmk] at hTk
        have HSm := Lib.hid hSm
        have HTk := Lib.hid hTk
        have HY := Lib.hid (fun hc => make_yes HI.out.1 (show k ≤ 1000 by omega) (time := time) (flags := flags) (body := body) (size := size) (org := org) hc)
        have HZ := Lib.hid (fun hc => make_no (b := b) (r := makeR b time flags body size org) hc)
        have HMs := Lib.hid (fun hc => check_msg (r := makeR b time flags body size org) hc rfl)
        have hi1 := HI.out.1.next
        have hi2 := HI.out.1.ub
        have hi3 := HI.out.1.uc
        rw [HNx.out] at hi1
        rw [HUb.out] at hi2
        rw [HUc.out] at hi3
        have HI3 := Lib.hid (And.intro hi1 (And.intro hi2 hi3))
        obtain ⟨ck, hck⟩ : ∃ c, checkE (makeR b time flags body size org) = c := ⟨_, rfl⟩
        rw [hck] at hCk
        have HCk := Lib.hid hCk
        have HCe := Lib.hid hck
        clear hmk hSm hCk hTk hi1 hi2 hi3 hck hWW HMk HW H5 HU5
        have u0 := blk_cell H6.out.u 0
        have u1 := blk_cell H6.out.u 1
        have r0 := blk_cell H6.out.r 0
        have r1 := blk_cell H6.out.r 1
        have r2 := blk_cell H6.out.r 2
        have r3 := blk_cell H6.out.r 3
        have r4 := blk_cell H6.out.r 4
        have r5 := blk_cell H6.out.r 5
        have r6 := blk_cell H6.out.r 6
        have r7 := blk_cell H6.out.r 7
        have r8 := blk_cell H6.out.r 8
        have r9 := blk_cell H6.out.r 9
        have r10 := blk_cell H6.out.r 10
        have r11 := blk_cell H6.out.r 11
        have H := Lib.hid (H6.out.quiet ((Mod.refl [] W).drew))
        clear H6
        go_region_held3 (fun W' => W'.cell? ⟨gu, 0, none⟩ = some (.int .i64 ub) ∧ W'.cell? ⟨gu, 1, none⟩ = some (.int .i64 uc) ∧ W'.cell? ⟨gr, 0, none⟩ = some (.int .i64 2) ∧ W'.cell? ⟨gr, 1, none⟩ = some (.int .i64 0) ∧ W'.cell? ⟨gr, 2, none⟩ = some (.int .i64 0) ∧ W'.cell? ⟨gr, 3, none⟩ = some (.int .i64 0) ∧ W'.cell? ⟨gr, 4, none⟩ = some (.int .i64 0) ∧ W'.cell? ⟨gr, 5, none⟩ = some (.int .i64 nx) ∧ W'.cell? ⟨gr, 6, none⟩ = some (.int .i64 time) ∧ W'.cell? ⟨gr, 7, none⟩ = some (.int .i64 flags) ∧ W'.cell? ⟨gr, 8, none⟩ = some (.int .i64 body) ∧ W'.cell? ⟨gr, 9, none⟩ = some (.int .i64 size) ∧ W'.cell? ⟨gr, 10, none⟩ = some (.int .i64 org) ∧ W'.cell? ⟨gr, 11, none⟩ = some (.slice none 0 0)) (first | go_keep | (refine ⟨?_, ?_, ?_, ?_, ?_, ?_, ?_, ?_, ?_, ?_, ?_, ?_, ?_, ?_⟩ <;> assumption)) (first
          | (go_at_call 19; (refine (next_is HNx.out _ g ge go (2 * k) H.out.mw.mb).mono ?_); rintro e wn ⟨rfl, rfl⟩)
          | (go_at_call 20; (refine (use_is HUb.out HUc.out _ g ge go (2 * k) H.out.mw.mb).mono ?_); rintro e wn ⟨rfl, hm⟩; have H := Lib.hid (H.out.quiet hm); clear hm; clear u0 u1 r0 r1 r2 r3 r4 r5 r6 r7 r8 r9 r10 r11; have u0 := blk_cell H.out.u 0; have u1 := blk_cell H.out.u 1; have r0 := blk_cell H.out.r 0; have r1 := blk_cell H.out.r 1; have r2 := blk_cell H.out.r 2; have r3 := blk_cell H.out.r 3; have r4 := blk_cell H.out.r 4; have r5 := blk_cell H.out.r 5; have r6 := blk_cell H.out.r 6; have r7 := blk_cell H.out.r 7; have r8 := blk_cell H.out.r 8; have r9 := blk_cell H.out.r 9; have r10 := blk_cell H.out.r 10; have r11 := blk_cell H.out.r 11)
          | (go_at_call 22; (refine (HSm.out _).mono ?_); rintro e wn ⟨rfl, hm⟩; have H := Lib.hid (H.out.quiet hm); clear hm; clear u0 u1 r0 r1 r2 r3 r4 r5 r6 r7 r8 r9 r10 r11; have u0 := blk_cell H.out.u 0; have u1 := blk_cell H.out.u 1; have r0 := blk_cell H.out.r 0; have r1 := blk_cell H.out.r 1; have r2 := blk_cell H.out.r 2; have r3 := blk_cell H.out.r 3; have r4 := blk_cell H.out.r 4; have r5 := blk_cell H.out.r 5; have r6 := blk_cell H.out.r 6; have r7 := blk_cell H.out.r 7; have r8 := blk_cell H.out.r 8; have r9 := blk_cell H.out.r 9; have r10 := blk_cell H.out.r 10; have r11 := blk_cell H.out.r 11))
        by_cases hc : ck = 0
        · have hce := HCe.out.trans hc
          have hy := HY.out hce
          obtain ⟨⟨m0, m1⟩, ⟨m2, m3⟩, -⟩ := HMs.out hce
          have m2' : 0 ≤ size := m2
          have m3' : size ≤ 32768 := m3
          rw [HNx.out, HUb.out, HUc.out] at hy
          obtain ⟨b', hb'⟩ : ∃ b' : Bx, (⟨putI b.L nx ⟨nx, time, flags, body, size, org, false⟩, noteX b.O org nx, ub + size, uc + 1, nx + 1⟩ : Bx) = b' := ⟨_, rfl⟩
          rw [hb'] at hy
          have HN2 := Lib.hid (show b'.next = nx + 1 by rw [← hb'])
          have HU2 := Lib.hid (show b'.ub = ub + size by rw [← hb'])
          have HV2 := Lib.hid (show b'.uc = uc + 1 by rw [← hb'])
          have HF2 := Lib.hid (show findI b'.L nx = some ⟨nx, time, flags, body, size, org, false⟩ by rw [← hb']; dsimp only; rw [find_putI, if_pos rfl])
          have HT2 := Lib.hid (HTk.out b' true hy)
          obtain ⟨i0, ⟨i1, i2⟩, i3, i4⟩ := HI3.out
          obtain ⟨i5, i6⟩ := i0
          have hw1 : IntKind.i64.wrap (nx + 1) = nx + 1 := by rw [IntKind.wrap_i64]; omega
          have hw2 : IntKind.i64.wrap (ub + size) = ub + size := by rw [IntKind.wrap_i64]; omega
          have hw3 : IntKind.i64.wrap (uc + 1) = uc + 1 := by rw [IntKind.wrap_i64]; omega
          rw [hc] at HCk
          have HG2 := Lib.hid (fun W h => get_is HF2.out W g ge go (2 * k + 2) h (by omega) (by omega))
          clear hce hy m0 m1 m2 m3 hb' hc HY HZ HMs HCe HTk HSm HI HI3
          go_wp2_with (first
            | (go_at_call 23; (refine (HCk.out _).mono ?_); rintro e w7 ⟨rfl, hm⟩; have H7 := Lib.hid (H.out.quiet hm); clear hm; clear u0 u1 r0 r1 r2 r3 r4 r5 r6 r7 r8 r9 r10 r11; have u0 := blk_cell H7.out.u 0; have u1 := blk_cell H7.out.u 1; have r0 := blk_cell H7.out.r 0; have r1 := blk_cell H7.out.r 1; have r2 := blk_cell H7.out.r 2; have r3 := blk_cell H7.out.r 3; have r4 := blk_cell H7.out.r 4; have r5 := blk_cell H7.out.r 5; have r6 := blk_cell H7.out.r 6; have r7 := blk_cell H7.out.r 7; have r8 := blk_cell H7.out.r 8; have r9 := blk_cell H7.out.r 9; have r10 := blk_cell H7.out.r 10; have r11 := blk_cell H7.out.r 11)
            | (go_at_call 12; (refine (HT2.out _ H7.out.mw.mb (H7.out.mw.forms HT.out)).mono ?_); rintro e w8 ⟨rfl, hb, hm⟩; have H8 := Lib.hid (H7.out.step hb hm); clear hb hm)
            | (go_at_call 14; (refine (HG2.out _ H8.out.mw.mb).mono ?_); rintro e w9 ⟨rfl, hm⟩; have hm' := hm.alloc (.cells #[.int .i64 nx, .int .i64 time, .int .i64 flags, .int .i64 body, .int .i64 size, .int .i64 org, .bool false] 39); have H9 := Lib.hid (H8.out.quiet hm'); have HX9 := Lib.hid (heap_alloc_new w9 (.cells #[.int .i64 nx, .int .i64 time, .int .i64 flags, .int .i64 body, .int .i64 size, .int .i64 org, .bool false] 39)); clear hm hm'))
          generalize w9.alloc (.cells #[.int .i64 nx, .int .i64 time, .int .i64 flags, .int .i64 body, .int .i64 size, .int .i64 org, .bool false] 39) = W9 at *
          generalize w9.heap.size = gx at *
          clear u0 u1 r0 r1 r2 r3 r4 r5 r6 r7 r8 r9 r10 r11 H H7 H8
          have u0 := blk_cell H9.out.u 0
          have u1 := blk_cell H9.out.u 1
          have e0 := blk_cell HX9.out 0
          have e1 := blk_cell HX9.out 1
          have e2 := blk_cell HX9.out 2
          have e3 := blk_cell HX9.out 3
          have e4 := blk_cell HX9.out 4
          have e5 := blk_cell HX9.out 5
          have e6 := blk_cell HX9.out 6
          have H := Lib.hid (H9.out.quiet ((Mod.refl [] W9).drew))
          have HX := Lib.hid (blk_drew HX9.out)
          clear H9 HX9 HT2 HG2 HCk
          go_region_held3 (fun W' => W'.cell? ⟨gu, 0, none⟩ = some (.int .i64 ub) ∧ W'.cell? ⟨gu, 1, none⟩ = some (.int .i64 uc) ∧ W'.cell? ⟨gx, 0, none⟩ = some (.int .i64 nx) ∧ W'.cell? ⟨gx, 1, none⟩ = some (.int .i64 time) ∧ W'.cell? ⟨gx, 2, none⟩ = some (.int .i64 flags) ∧ W'.cell? ⟨gx, 3, none⟩ = some (.int .i64 body) ∧ W'.cell? ⟨gx, 4, none⟩ = some (.int .i64 size) ∧ W'.cell? ⟨gx, 5, none⟩ = some (.int .i64 org) ∧ W'.cell? ⟨gx, 6, none⟩ = some (.bool false)) (first | go_keep | (refine ⟨?_, ?_, ?_, ?_, ?_, ?_, ?_, ?_, ?_⟩ <;> assumption)) (first
            | (go_at_call 19; (refine (next_is HN2.out _ g ge go (2 * k + 2) H.out.mw.mb).mono ?_); rintro e wn ⟨rfl, rfl⟩)
            | (go_at_call 20; (refine (use_is HU2.out HV2.out _ g ge go (2 * k + 2) H.out.mw.mb).mono ?_); rintro e wn ⟨rfl, hm⟩; have H := Lib.hid (H.out.quiet hm); clear u0 u1 e0 e1 e2 e3 e4 e5 e6; have HX := Lib.hid (hm.row HX.out (by simp)); clear hm; have u0 := blk_cell H.out.u 0; have u1 := blk_cell H.out.u 1; have e0 := blk_cell HX.out 0; have e1 := blk_cell HX.out 1; have e2 := blk_cell HX.out 2; have e3 := blk_cell HX.out 3; have e4 := blk_cell HX.out 4; have e5 := blk_cell HX.out 5; have e6 := blk_cell HX.out 6))
          go_wp2_with fail
          go_ret
          exact ⟨rfl, H.out.mw.mod⟩
        · have hz := HZ.out (show checkE (makeR b time flags body size org) ≠ 0 by rw [HCe.out]; exact hc)
          have HT2 := Lib.hid (HTk.out b false hz)
          have hc' : (ck != 0) = true := by simpa using hc
          clear hz hc HY HZ HMs HCe HTk HSm HI HI3
          go_wp2_with (first
            | (go_at_call 23; (refine (HCk.out _).mono ?_); rintro e w7 ⟨rfl, hm⟩; have H7 := Lib.hid (H.out.quiet hm); clear hm; clear u0 u1 r0 r1 r2 r3 r4 r5 r6 r7 r8 r9 r10 r11; have u0 := blk_cell H7.out.u 0; have u1 := blk_cell H7.out.u 1; have r0 := blk_cell H7.out.r 0; have r1 := blk_cell H7.out.r 1; have r2 := blk_cell H7.out.r 2; have r3 := blk_cell H7.out.r 3; have r4 := blk_cell H7.out.r 4; have r5 := blk_cell H7.out.r 5; have r6 := blk_cell H7.out.r 6; have r7 := blk_cell H7.out.r 7; have r8 := blk_cell H7.out.r 8; have r9 := blk_cell H7.out.r 9; have r10 := blk_cell H7.out.r 10; have r11 := blk_cell H7.out.r 11)
            | (go_at_call 12; (refine (HT2.out _ H7.out.mw.mb (H7.out.mw.forms HT.out)).mono ?_); rintro e w8 ⟨rfl, hb, hm⟩; have H8 := Lib.hid (H7.out.step hb hm); clear hb hm)
            | (go_at_call 19; (refine (next_is HNx.out _ g ge go (2 * k + 2) H8.out.mw.mb).mono ?_); rintro e w9 ⟨rfl, rfl⟩))
          go_ret
          exact ⟨rfl, H8.out.mw.mod⟩
end Go.Proofs.YtfcdapicemlfgaaDoor
