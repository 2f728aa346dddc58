import Derived.Test.YtbhdlclaooohfaaGreatDoorEvR
import Derived.Test.YtbhdlclaooohfaaGreatDoorFrU
/- Envel: a job's file, cut off, is read as the job with the states of the whole steps. Plain mathematics. -/
namespace Go.Proofs.YtbhdlclaooohfaaGreatDoor
open Go Go.RowKit Go.Proofs.YtbhdlclaooohfaaGreatDoor.Ad
set_option linter.unusedVariables false
set_option linter.unusedSimpArgs false

theorem cU_ok {x : Int} {k : Nat} {r : List Int} (hk : sizedB (k : Int) = true) (h0 : 0 ≤ x) (h1 : x < 256 ^ k) : cU ⟨be x k ++ r, 0⟩ k = x ∧ cUs ⟨be x k ++ r, 0⟩ k = ⟨r, 0⟩ := by
  have hE : srcUE (be x k ++ r) 0 (k : Int) = 0 := by
    unfold srcUE
    simp [hk, be_length]
    omega
  have hd : (be x k ++ r).drop (k : Int).toNat = r := by rw [Int.toNat_natCast, List.drop_left' (be_length k x)]
  have ht : (be x k ++ r).take (k : Int).toNat = be x k := by rw [Int.toNat_natCast, List.take_left' (be_length k x)]
  refine ⟨?_, ?_⟩
  · show srcUV (be x k ++ r) 0 k = x
    unfold srcUV
    rw [if_pos hE, ht, val_be, Int.emod_eq_of_lt h0 h1]
  · show (⟨srcUL (be x k ++ r) 0 k, srcUE (be x k ++ r) 0 k⟩ : Cr) = _
    unfold srcUL
    rw [if_pos hE, hd, hE]
theorem cT_ok {t r : List Int} (ht : t.length ≤ 64) : cT ⟨txL t ++ r, 0⟩ = t ∧ cTs ⟨txL t ++ r, 0⟩ = ⟨r, 0⟩ := by
  have hN : srcTN (txL t ++ r) = t.length := by
    unfold srcTN txL
    rw [List.append_assoc, List.take_left' (be_length 4 _), val_be, Int.emod_eq_of_lt (by omega) (by show (t.length : Int) < 256 ^ 4; omega)]
  have hl : (txL t ++ r).length = 4 + t.length + r.length := by simp [txL, be_length]; omega
  have hE : srcTE (txL t ++ r) 0 64 = 0 := by
    unfold srcTE
    rw [hN, hl]
    simp
    omega
  have h4 : (txL t ++ r).drop 4 = t ++ r := by unfold txL; rw [List.append_assoc, List.drop_left' (be_length 4 _)]
  refine ⟨?_, ?_⟩
  · show srcTV (txL t ++ r) 0 64 = t
    unfold srcTV
    rw [if_pos hE, h4, hN, Int.toNat_natCast, List.take_left]
  · show (⟨srcTL (txL t ++ r) 0 64, srcTE (txL t ++ r) 0 64⟩ : Cr) = _
    unfold srcTL
    rw [if_pos hE, hN, Int.toNat_natCast, ← List.drop_drop, h4, List.drop_left, hE]
theorem sized1 : sizedB ((1 : Nat) : Int) = true := rfl
theorem sized2 : sizedB ((2 : Nat) : Int) = true := rfl
theorem sized8 : sizedB ((8 : Nat) : Int) = true := rfl
theorem wr_id {x : Int} (h0 : 0 ≤ x) (h1 : x ≤ 9223372036854775807) : wr64 x = x := IntWalk.i64_in _ ⟨by omega, by omega⟩
theorem mb_ok {l d : ByteArray} {r : List Int} (hl : l.size ≤ 64) (hd : d.size ≤ 64) : mbF ⟨mbL l d ++ r, 0⟩ = l ∧ mbD ⟨mbL l d ++ r, 0⟩ = d ∧ mbN ⟨mbL l d ++ r, 0⟩ = ⟨r, 0⟩ := by
  have e : mbL l d ++ r = txL (nums l) ++ (txL (nums d) ++ r) := by simp [mbL]
  rw [e]
  obtain ⟨h1, h2⟩ := cT_ok (t := nums l) (r := txL (nums d) ++ r) (by rw [nums_length]; exact hl)
  obtain ⟨h3, h4⟩ := cT_ok (t := nums d) (r := r) (by rw [nums_length]; exact hd)
  refine ⟨?_, ?_, ?_⟩
  · unfold mbF; rw [h1, strOfNums_nums]
  · unfold mbD; rw [h2, h3, strOfNums_nums]
  · unfold mbN; rw [h2, h4]
theorem tc_ok {t : Tg} {r : List Int} (hu : 0 ≤ t.user ∧ t.user < 65536) (hl : t.l.size ≤ 64) (hd : t.d.size ≤ 64) : tcX ⟨tgW t ++ r, 0⟩ = t ∧ tcN ⟨tgW t ++ r, 0⟩ = ⟨r, 0⟩ := by
  have e : tgW t ++ r = be t.user 2 ++ (mbL t.l t.d ++ r) := by simp [tgW]
  rw [e]
  obtain ⟨h1, h2⟩ := cU_ok (k := 2) (r := mbL t.l t.d ++ r) sized2 hu.1 (by have := hu.2; show t.user < 256 ^ 2; omega)
  obtain ⟨h3, h4, h5⟩ := mb_ok (r := r) hl hd
  have h1' : cU ⟨be t.user 2 ++ (mbL t.l t.d ++ r), 0⟩ 2 = t.user := h1
  have h2' : cUs ⟨be t.user 2 ++ (mbL t.l t.d ++ r), 0⟩ 2 = ⟨mbL t.l t.d ++ r, 0⟩ := h2
  refine ⟨?_, ?_⟩
  · unfold tcX; rw [h1', h2', h3, h4, wr_id hu.1 (by omega)]
  · unfold tcN; rw [h2', h5]
theorem tcs_ok : ∀ (ts : List Tg) (r : List Int), (∀ t ∈ ts, (1 ≤ t.user ∧ t.user ≤ 999) ∧ t.l.size ≤ 64 ∧ t.d.size ≤ 64) → tcsX ts.length ⟨ts.flatMap tgW ++ r, 0⟩ = ts ∧ tcsN ts.length ⟨ts.flatMap tgW ++ r, 0⟩ = ⟨r, 0⟩ := by
  intro ts
  induction ts with
  | nil => intro r _; exact ⟨rfl, by show (⟨[] ++ r, 0⟩ : Cr) = _; rw [List.nil_append]⟩
  | cons t ts ih =>
    intro r h
    have ht := h t (by simp)
    obtain ⟨h1, h2⟩ := tc_ok (r := ts.flatMap tgW ++ r) ⟨by omega, by omega⟩ ht.2.1 ht.2.2
    obtain ⟨h3, h4⟩ := ih r (fun x hx => h x (by simp [hx]))
    have e : (t :: ts).flatMap tgW ++ r = tgW t ++ (ts.flatMap tgW ++ r) := by simp
    rw [e]
    refine ⟨?_, ?_⟩
    · show tcX _ :: tcsX ts.length (tcN _) = _
      rw [h1, h2, h3]
    · show tcsN ts.length (tcN _) = _
      rw [h2, h4]
theorem told_ok {j : Jb} (h : TightJ j) : toldJ ⟨hdL (jbE j), 0⟩ = ⟨j.id, j.arr, j.fl, j.fd, j.to, List.replicate j.to.length (freshS j.arr), []⟩ ∧ toldOk ⟨hdL (jbE j), 0⟩ = true := by
  have e : hdL (jbE j) = be j.id 8 ++ (be j.arr 8 ++ (mbL j.fl j.fd ++ (be j.to.length 1 ++ (j.to.flatMap tgW ++ [])))) := by rw [hdL_W]; simp [frontW]
  obtain ⟨i1, i2⟩ := h.id
  obtain ⟨a1, a2⟩ := h.arr
  obtain ⟨n1, n2⟩ := h.n
  obtain ⟨h1, h2⟩ := cU_ok (k := 8) (r := be j.arr 8 ++ (mbL j.fl j.fd ++ (be j.to.length 1 ++ (j.to.flatMap tgW ++ [])))) sized8 (show 0 ≤ j.id by omega) (by show j.id < 256 ^ 8; omega)
  obtain ⟨h3, h4⟩ := cU_ok (k := 8) (r := mbL j.fl j.fd ++ (be j.to.length 1 ++ (j.to.flatMap tgW ++ []))) sized8 a1 (by show j.arr < 256 ^ 8; omega)
  obtain ⟨h5, h6, h7⟩ := mb_ok (r := be j.to.length 1 ++ (j.to.flatMap tgW ++ [])) h.fl h.fd
  obtain ⟨h8, h9⟩ := cU_ok (k := 1) (r := j.to.flatMap tgW ++ []) sized1 (show (0 : Int) ≤ (j.to.length : Int) by omega) (by show (j.to.length : Int) < 256 ^ 1; omega)
  obtain ⟨h10, h11⟩ := tcs_ok j.to [] h.to
  have g1 : cU ⟨hdL (jbE j), 0⟩ 8 = j.id := by rw [e]; exact h1
  have g2 : tc1 ⟨hdL (jbE j), 0⟩ = ⟨be j.arr 8 ++ (mbL j.fl j.fd ++ (be j.to.length 1 ++ (j.to.flatMap tgW ++ []))), 0⟩ := by unfold tc1; rw [e]; exact h2
  have g3 : cU (tc1 ⟨hdL (jbE j), 0⟩) 8 = j.arr := by rw [g2]; exact h3
  have g4 : tc2 ⟨hdL (jbE j), 0⟩ = ⟨mbL j.fl j.fd ++ (be j.to.length 1 ++ (j.to.flatMap tgW ++ [])), 0⟩ := by unfold tc2; rw [g2]; exact h4
  have g5 : tc3 ⟨hdL (jbE j), 0⟩ = ⟨be j.to.length 1 ++ (j.to.flatMap tgW ++ []), 0⟩ := by unfold tc3; rw [g4]; exact h7
  have g6 : cU (tc3 ⟨hdL (jbE j), 0⟩) 1 = (j.to.length : Int) := by rw [g5]; exact h8
  have g7 : tcC ⟨hdL (jbE j), 0⟩ = j.to.length := by unfold tcC; rw [g6]; simp
  have g8 : tc4 ⟨hdL (jbE j), 0⟩ = ⟨j.to.flatMap tgW ++ [], 0⟩ := by unfold tc4; rw [g5]; exact h9
  refine ⟨?_, ?_⟩
  · unfold toldJ
    rw [g1, g3, g4, g7, g8, h5, h6, h10, wr_id (by omega) (by omega), wr_id (by omega) (by omega)]
  · unfold toldOk tcE cB doneE
    rw [g7, g8, h11]
    rfl
theorem sc_ok {i : Int} {s : JSt} (hi : 0 ≤ i ∧ i < 256) (h : stB s = true) : cU ⟨spL i s, 0⟩ 1 = i ∧ scX ⟨spL i s, 0⟩ = s ∧ cB (sc5 ⟨spL i s, 0⟩) = true := by
  have e : spL i s = be i 1 ++ (be s.st 1 ++ (be s.tries 2 ++ (be s.due 8 ++ (be s.code 2 ++ [])))) := by simp [spL]
  have hb := h
  rw [stB_bt] at hb
  simp only [Bool.and_eq_true, Bool.or_eq_true, btB_iff, decide_eq_true_eq] at hb
  obtain ⟨b1, b2, b3, b4⟩ := hb
  obtain ⟨h1, h2⟩ := cU_ok (k := 1) (r := be s.st 1 ++ (be s.tries 2 ++ (be s.due 8 ++ (be s.code 2 ++ [])))) sized1 hi.1 (by have := hi.2; show i < 256 ^ 1; omega)
  obtain ⟨h3, h4⟩ := cU_ok (k := 1) (r := be s.tries 2 ++ (be s.due 8 ++ (be s.code 2 ++ []))) sized1 b1.1 (by have := b1.2; show s.st < 256 ^ 1; omega)
  obtain ⟨h5, h6⟩ := cU_ok (k := 2) (r := be s.due 8 ++ (be s.code 2 ++ [])) sized2 b2.1 (by have := b2.2; show s.tries < 256 ^ 2; omega)
  obtain ⟨h7, h8⟩ := cU_ok (k := 8) (r := be s.code 2 ++ []) sized8 b3.1 (by have := b3.2; show s.due < 256 ^ 8; omega)
  obtain ⟨h9, h10⟩ := cU_ok (k := 2) (r := []) sized2 (show 0 ≤ s.code by omega) (by show s.code < 256 ^ 2; omega)
  have g1 : sc1 ⟨spL i s, 0⟩ = ⟨be s.st 1 ++ (be s.tries 2 ++ (be s.due 8 ++ (be s.code 2 ++ []))), 0⟩ := by unfold sc1; rw [e]; exact h2
  have g2 : sc2 ⟨spL i s, 0⟩ = ⟨be s.tries 2 ++ (be s.due 8 ++ (be s.code 2 ++ [])), 0⟩ := by unfold sc2; rw [g1]; exact h4
  have g3 : sc3 ⟨spL i s, 0⟩ = ⟨be s.due 8 ++ (be s.code 2 ++ []), 0⟩ := by unfold sc3; rw [g2]; exact h6
  have g4 : sc4 ⟨spL i s, 0⟩ = ⟨be s.code 2 ++ [], 0⟩ := by unfold sc4; rw [g3]; exact h8
  have g5 : sc5 ⟨spL i s, 0⟩ = ⟨[], 0⟩ := by unfold sc5; rw [g4]; exact h10
  have q3 : cU ⟨be s.st 1 ++ (be s.tries 2 ++ (be s.due 8 ++ (be s.code 2 ++ []))), 0⟩ 1 = s.st := h3
  have q5 : cU ⟨be s.tries 2 ++ (be s.due 8 ++ (be s.code 2 ++ [])), 0⟩ 2 = s.tries := h5
  have q7 : cU ⟨be s.due 8 ++ (be s.code 2 ++ []), 0⟩ 8 = s.due := h7
  have q9 : cU ⟨be s.code 2 ++ [], 0⟩ 2 = s.code := h9
  refine ⟨by rw [e]; exact h1, ?_, by rw [g5]; rfl⟩
  unfold scX
  rw [g1, g2, g3, g4, q3, q5, q7, q9, wr_id b1.1 (by omega), wr_id b2.1 (by omega), wr_id b3.1 (by omega), wr_id (by omega) (by omega)]
theorem row_at {ps : List KP} (hps : ∀ x ∈ ps, x.ok) {c : Nat} {m : Nat} (hm : m ≤ ps.length) (h1 : (rowL (ps.take m)).length ≤ c) (j : Nat) (hj : j < m) (hjl : j < ps.length) :
    atE ((rowL ps).take c) (rowL (ps.take j)).length = 0 ∧ atF ((rowL ps).take c) (rowL (ps.take j)).length = ⟨(rowL (ps.take j)).length, (wrapL ps[j].kind ps[j].pay).length, ps[j].kind, ps[j].pay⟩ := by
  have hle : (rowL (ps.take (j + 1))).length ≤ c := by
    have : rowL (ps.take m) = rowL (ps.take (j + 1)) ++ rowL ((ps.take m).drop (j + 1)) := by
      rw [← rowL_append]
      congr 1
      have := List.take_append_drop (j + 1) (ps.take m)
      rw [List.take_take, Nat.min_eq_left (by omega)] at this
      exact this.symm
    have := congrArg List.length this
    rw [List.length_append] at this
    omega
  rw [rowL_take_len ps j hjl] at hle
  have hd : ((rowL ps).take c).drop (rowL (ps.take j)).length = wrapL ps[j].kind ps[j].pay ++ (rowL (ps.drop (j + 1))).take (c - (rowL (ps.take j)).length - (wrapL ps[j].kind ps[j].pay).length) := by
    rw [List.drop_take]
    conv => lhs; rw [rowL_split ps j hjl]
    rw [List.drop_append_length, List.take_append]
    rw [List.take_of_length_le (by omega)]
  obtain ⟨hx1, hx2, hx3⟩ := hps _ (List.getElem_mem hjl)
  obtain ⟨w1, w2, w3⟩ := at_wrap hx1 hx2 hx3 hd
  exact ⟨w1, w2⟩
theorem row_no {ps : List KP} (hps : ∀ x ∈ ps, x.ok) {c : Nat} (hc : c ≤ (rowL ps).length) {m : Nat} (hm : m ≤ ps.length) (h1 : (rowL (ps.take m)).length ≤ c) (h2 : ∀ h : m < ps.length, c < (rowL (ps.take (m + 1))).length) : atE ((rowL ps).take c) (rowL (ps.take m)).length ≠ 0 := by
  intro h
  have hk := row_cut hps hc hm h1 m (Nat.le_refl _)
  have he := (row_cut_end hps hc hm h1 h2).1
  unfold RowEnd at he
  rw [hk] at he
  exact he ⟨(atE_lt h).1, h⟩
end Go.Proofs.YtbhdlclaooohfaaGreatDoor

/- Envel: what Read answers of a job's file that is cut off. Plain mathematics. -/
namespace Go.Proofs.YtbhdlclaooohfaaGreatDoor
open Go Go.RowKit Go.Proofs.YtbhdlclaooohfaaGreatDoor.Ad
set_option linter.unusedVariables false
set_option linter.unusedSimpArgs false

/-- states behind steps -/
def app (sts : List JSt) (ss : List (Nat × JSt)) : List JSt := ss.foldl (fun l x => l.set x.1 x.2) sts
theorem app_nil (sts : List JSt) : app sts [] = sts := rfl
theorem app_snoc (sts : List JSt) (ss : List (Nat × JSt)) (x : Nat × JSt) : app sts (ss ++ [x]) = (app sts ss).set x.1 x.2 := by simp [app]
theorem app_append (sts : List JSt) (a b : List (Nat × JSt)) : app sts (a ++ b) = app (app sts a) b := by simp [app]
theorem app_length (sts : List JSt) : ∀ ss : List (Nat × JSt), (app sts ss).length = sts.length := by
  intro ss
  induction ss generalizing sts with
  | nil => rfl
  | cons x ss ih => show (app (sts.set x.1 x.2) ss).length = _; rw [ih]; simp
def kpS (x : Nat × JSt) : KP := ⟨18, spL x.1 x.2⟩
def two (j : Jb) : List KP := [⟨16, hdL (jbE j)⟩, ⟨17, j.body⟩]
def fileK (j : Jb) (ss : List (Nat × JSt)) : List KP := two j ++ ss.map kpS
def StepsOk (n : Nat) (ss : List (Nat × JSt)) : Prop := ∀ x ∈ ss, x.1 < n ∧ stB x.2 = true
theorem fileK_length (j : Jb) (ss : List (Nat × JSt)) : (fileK j ss).length = 2 + ss.length := by simp [fileK, two]; omega
theorem fileK_take (j : Jb) (ss : List (Nat × JSt)) (k : Nat) : (fileK j ss).take (2 + k) = fileK j (ss.take k) := by
  unfold fileK two
  rw [Nat.add_comm]
  simp [List.map_take]
theorem fileK_ok {j : Jb} (h : TightJ j) (hb : Bytes j.body) {ss : List (Nat × JSt)} (hs : StepsOk j.to.length ss) : ∀ x ∈ fileK j ss, x.ok := by
  intro x hx
  unfold fileK two at hx
  have h1 := hdL_len h
  have h2 := h.body
  rcases List.mem_append.1 hx with hx | hx
  · simp at hx
    rcases hx with rfl | rfl
    · exact ⟨⟨by show (0 : Int) ≤ 16; decide, by show (16 : Int) ≤ 255; decide⟩, hdL_bytes j, by show (hdL (jbE j)).length ≤ 65536; omega⟩
    · exact ⟨⟨by show (0 : Int) ≤ 17; decide, by show (17 : Int) ≤ 255; decide⟩, hb, by show j.body.length ≤ 65536; omega⟩
  · obtain ⟨y, _, rfl⟩ := List.mem_map.1 hx
    exact ⟨⟨by show (0 : Int) ≤ 18; decide, by show (18 : Int) ≤ 255; decide⟩, spL_bytes _ _, by show (spL y.1 y.2).length ≤ 65536; rw [spL_len]; omega⟩
theorem fresh_ok {a : Int} (h : 0 ≤ a ∧ a ≤ 4503599627370496) : stB (freshS a) = true := by
  unfold stB freshS
  simp
  exact h
theorem goodJ_fresh {j : Jb} (h : goodJ j = true) : goodJ { j with sts := List.replicate j.to.length (freshS j.arr) } = true := by
  have ht := tight h
  rw [goodJ_eq] at h ⊢
  simp only [Bool.and_eq_true] at h ⊢
  obtain ⟨h1, h2, h3, h4, h5, h6, h7⟩ := h
  refine ⟨h1, h2, h3, h4, by simp, ?_, h7⟩
  have hf := fresh_ok ht.arr
  simp [hf]
set_option maxHeartbeats 1000000 in
theorem reads_file {j : Jb} (hg : goodJ j = true) (hb : Bytes j.body) {ss : List (Nat × JSt)} (hs : StepsOk j.to.length ss) {m : Nat} (hm : m ≤ ss.length) {c : Nat} (hc : c ≤ (rowL (fileK j ss)).length) (h1 : (rowL (fileK j (ss.take m))).length ≤ c) (h2 : m < ss.length → c < (rowL (fileK j (ss.take (m + 1)))).length)
    {J : Jb} {u er : Int} (h : ReadsTo ((rowL (fileK j ss)).take c) J u er) : er = 0 ∧ u = (rowL (fileK j (ss.take m))).length ∧ J = { j with sts := app (List.replicate j.to.length (freshS j.arr)) (ss.take m) } := by
  have ht := tight hg
  have hok := fileK_ok ht hb hs
  have hlen := fileK_length j ss
  have hmF : 2 + m ≤ (fileK j ss).length := by omega
  have h1' : (rowL ((fileK j ss).take (2 + m))).length ≤ c := by rw [fileK_take]; exact h1
  have h2' : ∀ h : 2 + m < (fileK j ss).length, c < (rowL ((fileK j ss).take (2 + m + 1))).length := by
    intro h
    rw [show 2 + m + 1 = 2 + (m + 1) by omega, fileK_take]
    exact h2 (by omega)
  have hno := row_no hok hc hmF h1' h2'
  rw [fileK_take] at hno
  have hat := fun (i : Nat) (hi : i < 2 + m) => row_at hok hmF h1' i hi (by omega)
  obtain ⟨a0, a1⟩ := hat 0 (by omega)
  obtain ⟨b0, b1⟩ := hat 1 (by omega)
  have e0 : (rowL ((fileK j ss).take 0)).length = 0 := by simp [rowL]
  have e1 : (rowL ((fileK j ss).take 1)).length = (wrapL 16 (hdL (jbE j))).length := by simp [rowL, fileK, two]
  have e2 : (rowL (fileK j (ss.take 0))).length = (wrapL 16 (hdL (jbE j))).length + (wrapL 17 j.body).length := by simp [rowL, fileK, two]
  have g0 : (fileK j ss)[0] = ⟨16, hdL (jbE j)⟩ := by simp [fileK, two]
  have g1 : (fileK j ss)[1] = ⟨17, j.body⟩ := by simp [fileK, two]
  rw [g0, e0] at a1
  rw [e0] at a0
  rw [g1, e1] at b1
  rw [e1] at b0
  generalize hl : (rowL (fileK j ss)).take c = l at *
  obtain ⟨t1, t2⟩ := told_ok ht
  have r1 : rd1 l = true := by unfold rd1 takeB hitB; rw [a0, a1, t2]; rfl
  have r1J : rd1J l = ⟨j.id, j.arr, j.fl, j.fd, j.to, List.replicate j.to.length (freshS j.arr), []⟩ := by unfold rd1J; rw [a1]; exact t1
  have r1U : rdU1 l = (wrapL 16 (hdL (jbE j))).length := by unfold rdU1; rw [a1]; simp
  have r2 : rd2 l = true := by unfold rd2 takeB hitB; rw [r1U, b0, b1]; rfl
  have r2J : rd2J l = { j with sts := List.replicate j.to.length (freshS j.arr) } := by unfold rd2J; rw [r1J, r1U, b1]
  have r2U : rdU2 l = (rowL (fileK j (ss.take 0))).length := by unfold rdU2; rw [r1U, b1, e2]; simp
  have hok2 : rdOk l = true := by unfold rdOk; rw [r1, r2, r2J, goodJ_fresh hg]; rfl
  have hst : ∀ k, k ≤ m → stK l k = ((rowL (fileK j (ss.take k))).length, { j with sts := app (List.replicate j.to.length (freshS j.arr)) (ss.take k) }) ∧ (∀ i, i < k → stT l i = true) := by
    intro k
    induction k with
    | zero => intro _; refine ⟨?_, by omega⟩; show (rdU2 l, rd2J l) = _; rw [r2U, r2J, List.take_zero, app_nil]
    | succ k ih =>
      intro hk
      obtain ⟨ih1, ih2⟩ := ih (by omega)
      have hks : k < ss.length := by omega
      obtain ⟨c0, c1⟩ := hat (2 + k) (by omega)
      rw [fileK_take] at c0 c1
      have gk : (fileK j ss)[2 + k]'(by omega) = kpS ss[k] := by
        unfold fileK two
        rw [List.getElem_append_right (by simp)]
        simp
      rw [gk] at c1
      have c1' : atF l (rowL (fileK j (ss.take k))).length = ⟨(rowL (fileK j (ss.take k))).length, (wrapL 18 (spL ss[k].1 ss[k].2)).length, 18, spL ss[k].1 ss[k].2⟩ := c1
      clear c1
      have hx := hs _ (List.getElem_mem hks)
      have hn20 := ht.n
      obtain ⟨s1, s2, s3⟩ := sc_ok (i := (ss[k].1 : Int)) (s := ss[k].2) ⟨by omega, by omega⟩ hx.2
      have hlenk : (app (List.replicate j.to.length (freshS j.arr)) (ss.take k)).length = j.to.length := by rw [app_length]; simp
      have hso : scOk ⟨spL ss[k].1 ss[k].2, 0⟩ (app (List.replicate j.to.length (freshS j.arr)) (ss.take k)).length = true := by
        unfold scOk
        rw [s1, s2, s3, hx.2, hlenk]
        simp [hx.1]
      have htk : stT l k = true := by
        unfold stT takeB hitB
        rw [ih1]
        show ((decide (atE l (rowL (fileK j (ss.take k))).length = 0) && decide ((atF l (rowL (fileK j (ss.take k))).length).kind = 18)) && scOk ⟨(atF l (rowL (fileK j (ss.take k))).length).pay, 0⟩ (app (List.replicate j.to.length (freshS j.arr)) (ss.take k)).length) = true
        rw [c0, c1', hso]; rfl
      refine ⟨?_, ?_⟩
      · have e3 : stK l (k + 1) = ((stK l k).1 + (atF l (stK l k).1).len.toNat, stepJ ⟨(atF l (stK l k).1).pay, 0⟩ (stK l k).2) := rfl
        rw [e3, ih1]
        show ((rowL (fileK j (ss.take k))).length + (atF l (rowL (fileK j (ss.take k))).length).len.toNat, stepJ ⟨(atF l (rowL (fileK j (ss.take k))).length).pay, 0⟩ { j with sts := app (List.replicate j.to.length (freshS j.arr)) (ss.take k) }) = _
        rw [c1']
        have hso' : scOk ⟨spL ss[k].1 ss[k].2, 0⟩ ({ j with sts := app (List.replicate j.to.length (freshS j.arr)) (ss.take k) } : Jb).sts.length = true := hso
        have e4 := stepJ_yes hso'
        rw [s1, s2] at e4
        have hle : (rowL (fileK j (ss.take (k + 1)))).length = (rowL (fileK j (ss.take k))).length + (wrapL 18 (spL ss[k].1 ss[k].2)).length := by
          rw [← fileK_take, ← fileK_take, show 2 + (k + 1) = 2 + k + 1 by omega, rowL_take_len _ _ (by omega), gk]
          rfl
        rw [hle, List.take_succ_eq_append_getElem hks, app_snoc]
        simp only [Int.toNat_natCast] at e4 ⊢
        rw [e4]
      · intro i hi
        by_cases e : i = k
        · rw [e]; exact htk
        · exact ih2 i (by omega)
  obtain ⟨hK, hall⟩ := hst m (Nat.le_refl _)
  have hnot : stT l m = false := by
    unfold stT takeB hitB
    rw [hK]
    simp [hno]
  rcases h with ⟨hh, _⟩ | ⟨_, her, k, hk1, hk2, hJ, hu⟩
  · rw [hok2] at hh; cases hh
  · have hkm : k = m := by
      rcases Nat.lt_trichotomy k m with hlt | rfl | hgt
      · rw [hall k hlt] at hk2; cases hk2
      · rfl
      · rw [hk1 m hgt] at hnot; cases hnot
    subst hkm
    rw [hK] at hJ hu
    exact ⟨her, hu, hJ⟩
end Go.Proofs.YtbhdlclaooohfaaGreatDoor

