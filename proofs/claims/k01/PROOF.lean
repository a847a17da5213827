import PyProof.Rows.All
import Wide.All
import OpenK.AllK
import Wide.FinOn
import PySem.Challenge.RW_stampsheets_k01_layers_combined
import HandS.Base
import HandS.Call
import HandS.List
import HandS.Comp
import HandS.Ends
import HandS.Dict
import HandS.Iter
import HandS.Text
import HandS.Words
import HandS.Evl
import KE.GoesNew
import PyProof.EnumMake
import HandS.ForMost
import HandS.IsInst
import HandS.Replace
import HandS.SetFor
import HandS.ReplaceList
import PyProof.StrReplace2
import HandS.Steps
import KE.KEqSeq
import KE.SortKeyHeap
import KE.KSortKey
import HandS.SortKw
set_option Elab.async false
set_option linter.all false
set_option maxRecDepth 100000
set_option maxHeartbeats 2000000
namespace Mi
open PySem PySem.Spec PyProof.Rows L2

/-! ### pairs that are known ahead, each in a new tuple -/
def ItP (ps : List (V × V)) : It :=
  ⟨fun i _ => i < ps.length, fun i H v H' => ∃ T x y, v = .ref T ∧ H T = none ∧ H' = upd H T (.tup [x, y]) ∧ ps[i]? = some (x, y), fun i _ => i = ps.length⟩
def YP (ps : List (V × V)) (i : Nat) (h0 : Heap) (v : Value) (h : Heap) : Prop :=
  ∃ T a b, v = .ref T ∧ h0.objs.size ≤ T ∧ (∃ x y, ps[i]? = some (x, y) ∧ RelV x a ∧ RelV y b) ∧ h.IsTuple T #[a, b]
theorem turn_pairs {P : Program} {w : World} {K : PySem.W.Frag} {tg : Expr} {I : Addr} {fp wr : List Addr} {n : Nat} {St : Nat → Heap → Prop} (ps : List (V × V)) (hn : ps.length = n)
    (mem : I ∈ fp) (obj : ∀ i h, St i h → ∀ b ∈ fp, ∃ o, h.get? b = some o ∧ ∀ v, o.data ≠ .cell v)
    (W : ∀ A : Around, A.handled = none → GoesN P w A tg I fp wr n (YP ps) St) (A0 : Around) (hA0 : A0.handled = none)
    (self : ∀ (A : Around) (i : Nat) (s : Shared) (Q : Value → Shared → Prop) (E : Value → Shared → Prop), St i s.heap → Q (.ref I) s → wpAny (model P w) A (pyIter (.ref I)) Q E s) : Turn P w K tg (ItP ps) fp I St where
  mem := mem
  obj := obj
  keep := (W A0 hA0).frame
  item := by
    intro X hP hw hK hc i pins s σ H E I hf st hg
    subst hP hw hK
    have W1 := W X.A (I.ok.hd hc)
    refine W1.goes i s _ E (by rw [← hn]; exact hg) st fun v h' tk hY st' hk htk => ?_
    obtain ⟨T, a, b, rfl, hT, ⟨x, y, hxy, ra, rb⟩, ht⟩ := hY
    have new : ObjOk X.prog X.w (upd H T (.tup [x, y])) h' T (.tup [x, y]) := ⟨by show 2 ≤ sizeLine; decide, [a, b], .cons ra (.cons rb .nil), ht⟩
    have I1 := I.turnedNew (t' := tk) (ch := fp) (fun c o hb q => hk c o (fun z => hb (W1.sub c z)) q) hf hT new
    refine ⟨.ref T, _, I1, rfl, ⟨T, x, y, rfl, I.hok.fresh hT, rfl, hxy⟩, st', fun c hcm => ?_⟩
    obtain ⟨o, ho, _⟩ := obj i _ st c hcm
    rw [upd_ne (Nat.ne_of_lt (Nat.lt_of_lt_of_le (Heap.lt_size ho) hT))]
    exact (hf c hcm).1
  done := by
    intro X hP hw hK hc i pins s σ H E I hf st hg
    subst hP hw hK
    have W1 := W X.A (I.ok.hd hc)
    have e : i = n := by rw [← hn]; exact hg
    subst e
    refine W1.stops s _ E st fun h' tk hk htk => ?_
    exact I.turnedL (t' := tk) (ch := fp) (fun c o hb q => hk c o (fun z => hb (W1.sub c z)) q) hf
  self := self

/-! ### texts, sign by sign -/
def sgn (c : Nat) : V := .str ⟨#[c]⟩
theorem text_obj {h : Heap} {a : Addr} {ty : String} {x : Str} {t : Tok} {i : Nat} (st : h.IsStrIter a ty x t i) : ∃ o, h.get? a = some o ∧ ∀ v, o.data ≠ .cell v := by
  obtain ⟨o, e, c, d⟩ := st
  exact ⟨o, e, fun v z => by rw [d] at z; cases z⟩

def zipS (x y : Str) : List (V × V) := (x.cps.toList.zip y.cps.toList).map fun p => (sgn p.1, sgn p.2)
theorem zipS_len (x y : Str) : (zipS x y).length = min x.cps.size y.cps.size := by simp [zipS]
theorem zipS_get {x y : Str} {i c d : Nat} (h1 : x.cps[i]? = some c) (h2 : y.cps[i]? = some d) : (zipS x y)[i]? = some (sgn c, sgn d) := by
  have e1 : x.cps.toList[i]? = some c := by simpa using h1
  have e2 : y.cps.toList[i]? = some d := by simpa using h2
  unfold zipS
  rw [List.getElem?_map, List.getElem?_zip_eq_some (z := (c, d)) |>.mpr ⟨e1, e2⟩]
  rfl
def iZipS (ta : TA) : TI := fun σ H R => ta σ H fun vs H1 => ∃ x y, vs = [.str x, .str y] ∧ R (ItP (zipS x y)) H1
theorem pi_zipS {X : Cx} {e e2 : Expr} {ta : TA} {p pos tpos : Pos} {elts : List Expr} {kk : Nat} (hg : Gl X "zip") (hm : X.mg "zip" = none) (ha : PA X [e, e2] ta)
    (hs : starEach [e, e2] X.env = (false, eval e X.env) :: starEach [e2] X.env := by rfl) (hpl : (backTo pos (starEach [e2] X.env)).any (·.1) = false := by rfl) (hc : X.calm = true := by rfl) :
    PI X (.Tuple elts kk tpos) (.Call (.Name "zip" p) [e, e2] [] pos) (iZipS ta) := by
  refine ⟨fun pins s σ H R I h => ?_⟩
  refine Call_ (ld_blt I hg hm PyProof.Rows.boot_zip (PyProof.Rows.callWith_type1 (thn (ha.run pos pins s σ H _ I h) fun us s1 ⟨vs, H1, I1, r1, q1⟩ => ?_) hs hpl))
  obtain ⟨x, y, ex, q⟩ := q1
  subst ex
  cases r1 with
  | cons r rr =>
    cases rr with
    | cons r' rr =>
      cases rr
      obtain ⟨t, rfl⟩ := r
      obtain ⟨u, rfl⟩ := r'
      refine zip_begins2 (begins_text x t) (begins_text y u) trivial trivial fun h' hz hTI hTO h1 h2 hsz hk => wpAny_pyIter_zip hz ?_
      have I2 : Inv X pins σ H1 { s1 with heap := h' } := I1.kept (t' := s1.toks) hk
      have i1 : h'.IsStrIter s1.heap.objs.size (strIterType x) x t 0 := ⟨_, h1, rfl, rfl⟩
      have i2 : h'.IsStrIter (s1.heap.objs.size + 1) (strIterType y) y u 0 := ⟨_, h2, rfl, rfl⟩
      refine ⟨s1.heap.objs.size + 4, [s1.heap.objs.size + 4, s1.heap.objs.size + 2, s1.heap.objs.size + 3, s1.heap.objs.size, s1.heap.objs.size + 1], _, ItP (zipS x y), H1, rfl, I2,
        turn_pairs (wr := [s1.heap.objs.size + 4, s1.heap.objs.size + 3, s1.heap.objs.size, s1.heap.objs.size + 1]) (zipS x y) (zipS_len x y) (by simp) (St := fun i h => IsZip h (s1.heap.objs.size + 4) (s1.heap.objs.size + 2) (s1.heap.objs.size + 3) .none ∧ IsTupOf2 h (s1.heap.objs.size + 2) (.ref s1.heap.objs.size) (.ref (s1.heap.objs.size + 1)) ∧ (∃ a1 a2, IsTupOf2 h (s1.heap.objs.size + 3) a1 a2) ∧ h.IsStrIter s1.heap.objs.size (strIterType x) x t i ∧ h.IsStrIter (s1.heap.objs.size + 1) (strIterType y) y u i) ?_ (fun A hA => ?_) X.A (I1.ok.hd hc) (fun A i s Q E st h => wpAny_pyIter_zip st.1 h),
        ⟨hz, hTI, ⟨_, _, hTO⟩, i1, i2⟩, fun c hcm => ?_, q⟩
      · rintro i h ⟨z1, z2, ⟨_, _, z3⟩, z4, z5⟩ b hb
        have e' : b = s1.heap.objs.size + 4 ∨ b = s1.heap.objs.size + 2 ∨ b = s1.heap.objs.size + 3 ∨ b = s1.heap.objs.size ∨ b = s1.heap.objs.size + 1 := by simpa using hb
        rcases e' with q | q | q | q | q
        · rw [q]; exact ⟨_, z1, fun v q => nomatch q⟩
        · rw [q]; exact ⟨_, z2, fun v q => nomatch q⟩
        · rw [q]; exact ⟨_, z3, fun v q => nomatch q⟩
        · rw [q]; exact text_obj z4
        · rw [q]; exact text_obj z5
      · have D1 := Draws.text (prog := X.prog) (w := X.w) (A := A.in1) hA s1.heap.objs.size x t
        have D2 := Draws.text (prog := X.prog) (w := X.w) (A := A.in1) hA (s1.heap.objs.size + 1) y u
        have S : ZipSep2 (s1.heap.objs.size + 4) (s1.heap.objs.size + 2) (s1.heap.objs.size + 3) s1.heap.objs.size (s1.heap.objs.size + 1) [s1.heap.objs.size] [s1.heap.objs.size + 1] :=
          zip_sep2 (N := s1.heap.objs.size) (fp1 := []) (fp2 := []) (fun _ h => nomatch h) (fun _ h => nomatch h)
        refine (GoesN.zip2 S D1 D2).mono fun i h0 v h _ ⟨T, a, b, ev, hT, ⟨c, u1, hc1, ea⟩, ⟨d, u2, hd1, eb⟩, ht⟩ => ⟨T, a, b, ev, hT, ⟨sgn c, sgn d, zipS_get hc1 hd1, ⟨u1, ea⟩, ⟨u2, eb⟩⟩, ht⟩
      · have e' : c = s1.heap.objs.size + 4 ∨ c = s1.heap.objs.size + 2 ∨ c = s1.heap.objs.size + 3 ∨ c = s1.heap.objs.size ∨ c = s1.heap.objs.size + 1 := by simpa using hcm
        have hle : s1.heap.objs.size ≤ c := by
          rcases e' with z | z | z | z | z
          · rw [z]; exact Nat.le_add_right _ _
          · rw [z]; exact Nat.le_add_right _ _
          · rw [z]; exact Nat.le_add_right _ _
          · rw [z]; exact Nat.le_refl _
          · rw [z]; exact Nat.le_add_right _ _
        exact I1.fpOk hle (I1.hok.fresh hle)

def enumS (x : Str) : List (V × V) := x.cps.toList.zipIdx.map fun p => (.int (p.2 : Int), sgn p.1)
theorem enumS_len (x : Str) : (enumS x).length = x.cps.size := by simp [enumS]
theorem enumS_get {x : Str} {i c : Nat} (h1 : x.cps[i]? = some c) : (enumS x)[i]? = some (.int (i : Int), sgn c) := by
  have e1 : x.cps.toList[i]? = some c := by simpa using h1
  unfold enumS
  rw [List.getElem?_map, List.getElem?_zipIdx, e1]
  simp
def iEnumS (ta : TA) : TI := fun σ H R => ta σ H fun vs H1 => ∃ x, vs = [.str x] ∧ R (ItP (enumS x)) H1
theorem pi_enumS {X : Cx} {e : Expr} {ta : TA} {p pos tpos : Pos} {elts : List Expr} {kk : Nat} (hg : Gl X "enumerate") (hm : X.mg "enumerate" = none) (ha : PA X [e] ta) (hs : starEach [e] X.env = [(false, eval e X.env)] := by rfl) (hc : X.calm = true := by rfl) :
    PI X (.Tuple elts kk tpos) (.Call (.Name "enumerate" p) [e] [] pos) (iEnumS ta) := by
  refine ⟨fun pins s σ H R I h => ?_⟩
  refine Call_ (ld_blt I hg hm boot_enumerate (PyProof.Rows.callWith_type1 (thn (ha.run pos pins s σ H _ I h) fun us s1 ⟨vs, H1, I1, r1, q1⟩ => ?_) hs rfl))
  obtain ⟨x, ex, q⟩ := q1
  subst ex
  cases r1 with
  | cons r rr =>
    cases rr
    obtain ⟨t, rfl⟩ := r
    refine call_enumerate_str fun h' he hit hsz hk => wpAny_pyIter_enum he ?_
    have I2 : Inv X pins σ H1 { s1 with heap := h' } := I1.kept (t' := s1.toks) hk
    refine ⟨s1.heap.objs.size + 1, [s1.heap.objs.size + 1, s1.heap.objs.size], _, ItP (enumS x), H1, rfl, I2,
      turn_pairs (wr := [s1.heap.objs.size + 1, s1.heap.objs.size]) (enumS x) (enumS_len x) (by simp) (St := fun i h => (∃ old, IsEnum h (s1.heap.objs.size + 1) s1.heap.objs.size (0 + (i : Int)) old) ∧ h.IsStrIter s1.heap.objs.size (strIterType x) x t i) ?_ (fun A hA => ?_) X.A (I1.ok.hd hc) (fun A i s Q E st h => let ⟨⟨_, he⟩, _⟩ := st; wpAny_pyIter_enum he h), ⟨⟨.none, he⟩, hit⟩, fun c hcm => ?_, q⟩
    · rintro i h ⟨⟨_, z1⟩, z2⟩ b hb
      have e' : b = s1.heap.objs.size + 1 ∨ b = s1.heap.objs.size := by simpa using hb
      rcases e' with q | q
      · rw [q]; exact ⟨_, z1, fun v q => nomatch q⟩
      · rw [q]; exact text_obj z2
    · have D1 := Draws.text (prog := X.prog) (w := X.w) (A := A.in1) hA s1.heap.objs.size x t
      refine (GoesN.enumFrom 0 D1 (s1.heap.objs.size + 1) (Nat.succ_ne_self _) (by simp) (by simp)).mono fun i h0 v h _ ⟨T, u, b, ev, hT, ⟨c, u1, hc1, eb⟩, ht⟩ => ⟨T, _, b, ev, hT, ⟨.int (i : Int), sgn c, enumS_get hc1, ⟨u, by rw [Int.zero_add]⟩, ⟨u1, eb⟩⟩, ht⟩
    · have e' : c = s1.heap.objs.size + 1 ∨ c = s1.heap.objs.size := by simpa using hcm
      have hle : s1.heap.objs.size ≤ c := by
        rcases e' with z | z
        · rw [z]; exact Nat.le_add_right _ _
        · rw [z]; exact Nat.le_refl _
      exact I1.fpOk hle (I1.hok.fresh hle)
end Mi

set_option maxHeartbeats 2000000
namespace Mi
open PySem PySem.Spec PyProof.Rows L2 Evl

/-! ### a def of the text that keeps its promise, as its callers see it -/
structure Has (P : Program) (w : World) (K : PySem.W.Frag) (mg : Str → Option Value) (base : Heap) (k : Nat) (x : Str) (ps : List Str) (sp : Sp) : Prop where
  ex : ∃ f fd, mg x = some (.ref f) ∧ PySem.W.keepIn K (.ref f) = true ∧ FnOk P w K mg base CX0 k f fd ps sp ∧ Binds K fd ps [] ∧
    (ps.length = 1 → ∀ (s : Shared) (w1 : Value), BindsTo s fd ⟨[], ps.zip [w1]⟩ (ps.zip [w1])) ∧
    (∀ p q, ps = [p, q] → ∀ (s : Shared) (w1 w2 : Value), BindsTo s fd ⟨[], [q, p].zip [w1, w2]⟩ ([p, q].zip [w2, w1]))
section
variable {X : Cx} {k : Nat} {ps : List Str} {sp : Sp} {E : XK} {x : Str} {p pos : Pos} {e : Expr} {es : List Expr} {t : TA}
theorem pe_callH (F : Has X.prog X.w X.K X.mg X.base k x ps sp) (hr : Room k X.A) (ha : PA X (e :: es) t) (hg : Gl X x := by rfl) (hdb : (x == ("__debug__" : Str)) = false := by decide)
    (he : starEach (e :: es) X.env = (false, eval e X.env) :: starEach es X.env := by rfl) (hpl : (backTo pos (starEach es X.env)).any (·.1) = false := by rfl) :
    PE X (.Call (.Name x p) (e :: es) [] pos) (tCall sp [] E0 t) := by
  obtain ⟨f, fd, hm, hk, F, hb, _⟩ := F.ex
  exact pe_call F hr hg hm hk hb .nil pass0 ha hdb he hpl
/-- f(q=.., p=..): both parameters by name, in the other order; f(p=..) -/
def tCall2 (sp : Sp) (t1 t2 : TE) : TE := fun σ H Q => tCons t1 (tCons t2 tNil) σ H fun vs H2 => ∃ v1 v2, vs = [v1, v2] ∧ sp [v2, v1] H2 Q E0
theorem pe_callH2 {a b : Str} {e1 e2 : Expr} {t1 t2 : TE} {k1 k2 : Pos} (F : Has X.prog X.w X.K X.mg X.base k x [a, b] sp) (hr : Room k X.A) (h1 : PE X e1 t1) (h2 : PE X e2 t2) (hg : Gl X x := by rfl) (hdb : (x == ("__debug__" : Str)) = false := by decide)
    (hall : (backToKw pos (keywordEach [⟨some b, e1, k1⟩, ⟨some a, e2, k2⟩] X.env)).all (·.1.isSome) = true := by rfl)
    (hks : (backToKw pos (keywordEach [⟨some b, e1, k1⟩, ⟨some a, e2, k2⟩] X.env)).filterMap (·.1) = [b, a] := by rfl)
    (hpl : (backToKw pos (keywordEach [⟨some b, e1, k1⟩, ⟨some a, e2, k2⟩] X.env)).any (·.1.isNone) = false := by rfl) :
    PE X (.Call (.Name x p) [] [⟨some b, e1, k1⟩, ⟨some a, e2, k2⟩] pos) (tCall2 sp t1 t2) := by
  obtain ⟨f, fd, hm, hk, F, _, _, hb2⟩ := F.ex
  have hkw : PK X [⟨some b, e1, k1⟩, ⟨some a, e2, k2⟩] (tCons t1 (tCons t2 tNil)) := pk_cons h1 (pk_cons h2 pk_nil)
  refine ⟨fun pins s σ H Q I h => ?_⟩
  refine wpAny_Call_Name_kw (ld_glob I hg hm ?_ hdb)
  refine PySem.W.callWith_KW0 (h₀ := X.base) I.ok.mod.kin hk hall (thn (hkw.run pos pins s σ H _ I h) fun ws s2 ⟨zs, H2, I2, rz, v1, v2, ez, q2⟩ => ⟨I2.kIn, ?_⟩) hpl
  rw [hks]
  subst ez
  obtain ⟨w1, w2, rfl, r1, r2⟩ := vals2 rz
  refine wpAny_call (codeAny_mono (F.run X.A X.stack s2 H2 ⟨[], [b, a].zip [w1, w2]⟩ [w2, w1] [v2, v1] Q E0 hr I2.env0 (hb2 a b rfl s2 w1 w2) (.cons r2 (.cons r1 .nil)) q2) fun r s' hq => ?_)
  cases r with
  | error e => exact pass0 pins σ H2 s2 e s' I2 hq
  | ok fl =>
    cases fl with
    | ret u => exact I2.after hq
    | next => exact False.elim hq
    | brk => exact False.elim hq
    | cont => exact False.elim hq
def tCall1 (sp : Sp) (t1 : TE) : TE := fun σ H Q => tCons t1 tNil σ H fun vs H2 => ∃ v1, vs = [v1] ∧ sp [v1] H2 Q E0
theorem pe_callH1 {a : Str} {e1 : Expr} {t1 : TE} {k1 : Pos} (F : Has X.prog X.w X.K X.mg X.base k x [a] sp) (hr : Room k X.A) (h1 : PE X e1 t1) (hg : Gl X x := by rfl) (hdb : (x == ("__debug__" : Str)) = false := by decide)
    (hall : (backToKw pos (keywordEach [⟨some a, e1, k1⟩] X.env)).all (·.1.isSome) = true := by rfl)
    (hks : (backToKw pos (keywordEach [⟨some a, e1, k1⟩] X.env)).filterMap (·.1) = [a] := by rfl)
    (hpl : (backToKw pos (keywordEach [⟨some a, e1, k1⟩] X.env)).any (·.1.isNone) = false := by rfl) :
    PE X (.Call (.Name x p) [] [⟨some a, e1, k1⟩] pos) (tCall1 sp t1) := by
  obtain ⟨f, fd, hm, hk, F, _, hb1, _⟩ := F.ex
  have hkw : PK X [⟨some a, e1, k1⟩] (tCons t1 tNil) := pk_cons h1 pk_nil
  refine ⟨fun pins s σ H Q I h => ?_⟩
  refine wpAny_Call_Name_kw (ld_glob I hg hm ?_ hdb)
  refine PySem.W.callWith_KW0 (h₀ := X.base) I.ok.mod.kin hk hall (thn (hkw.run pos pins s σ H _ I h) fun ws s2 ⟨zs, H2, I2, rz, v1, ez, q2⟩ => ⟨I2.kIn, ?_⟩) hpl
  rw [hks]
  subst ez
  obtain ⟨w1, rfl, r1⟩ := vals1 rz
  refine wpAny_call (codeAny_mono (F.run X.A X.stack s2 H2 ⟨[], [a].zip [w1]⟩ [w1] [v1] Q E0 hr I2.env0 (hb1 rfl s2 w1) (.cons r1 .nil) q2) fun r s' hq => ?_)
  cases r with
  | error e => exact pass0 pins σ H2 s2 e s' I2 hq
  | ok fl =>
    cases fl with
    | ret u => exact I2.after hq
    | next => exact False.elim hq
    | brk => exact False.elim hq
    | cont => exact False.elim hq
end

/-! ### text * int -/
def reps (x : Str) (n : Nat) : Str := ⟨((List.replicate n x.cps.toList).flatten).toArray⟩
theorem reps_toList (x : Str) (n : Nat) : (reps x n).cps.toList = (List.replicate n x.cps.toList).flatten := rfl
theorem reps_len (x : Str) (n : Nat) : (reps x n).length = n * x.length := by
  show ((List.replicate n x.cps.toList).flatten).toArray.size = n * x.cps.size
  simp
theorem str_ext {x y : Str} (h : x.cps.toList = y.cps.toList) : x = y := by
  cases x; cases y
  simp only [Str.mk.injEq]
  exact Array.toList_inj.mp h
theorem foldl_reps (x : Array Nat) : ∀ (n : Nat) (acc : Array Nat), ((List.replicate n x).foldl (· ++ ·) acc).toList = acc.toList ++ (List.replicate n x.toList).flatten
  | 0, acc => by simp
  | n + 1, acc => by
    rw [List.replicate_succ, List.foldl_cons, foldl_reps x n (acc ++ x), List.replicate_succ, List.flatten_cons]
    simp
def rMulS : R2 := fun x y H Q => ∃ (z : Str) (n : Nat), x = .str z ∧ y = .int (n : Int) ∧ n ≤ 1000 ∧ z.length ≤ 1000 ∧ Q (.str (reps z n)) H
theorem op_mulS {X : Cx} : OpR X (binaryOp .Mult) rMulS := by
  intro pins s σ H x y v u Q I rx ry h
  obtain ⟨z, n, rfl, rfl, hn, hz, q⟩ := h
  obtain ⟨t, rfl⟩ := rx
  obtain ⟨t', rfl⟩ := ry
  have fin : ∀ (w : Str) (tk : Tok) (k : Nat), w = reps z n → EP X pins σ Q (.str w tk) { s with toks := k } := fun w tk k e => ⟨.str (reps z n), H, I.tok _, ⟨tk, by rw [e]⟩, q⟩
  refine PySem.P.mul_str ?_ (fun h1 h2 => ?_) (fun h1 h2 => ?_) ?_
  · rw [decide_eq_false (by omega), decide_eq_false (by omega)]; rfl
  · have : (1000 : Int) ≤ (2 ^ 63 - 1) / (n : Int) := by
      have h3 : (0 : Int) < n := by omega
      refine (Int.le_ediv_iff_mul_le h3).mpr ?_
      omega
    omega
  · unfold PySem.Builtin.Str.tooLong sizeLine
    have : z.length * (n : Int).toNat ≤ 1000 * 1000 := Nat.mul_le_mul hz (by omega)
    exact decide_eq_false (by omega)
  · by_cases h1 : (n : Int) < 1
    · rw [if_pos h1]
      have e : n = 0 := by omega
      subst e
      exact ⟨by decide, fin _ _ _ (str_ext (by rw [reps_toList]; rfl))⟩
    · rw [if_neg h1]
      by_cases h2 : (((n : Int) == 1 || z.length == 0) = true)
      · rw [if_pos h2]
        refine ⟨.str (reps z n), H, I, ⟨t, ?_⟩, q⟩
        congr 1
        refine str_ext ?_
        rw [reps_toList]
        simp only [Bool.or_eq_true, beq_iff_eq] at h2
        rcases h2 with h2 | h2
        · have e : n = 1 := by omega
          subst e
          simp
        · have e : z.cps.toList = [] := by
            have h3 : z.cps.size = 0 := h2
            simpa using h3
          rw [e]
          simp
      · rw [if_neg h2]
        have e : (⟨(List.replicate (n : Int).toNat z.cps).foldl (· ++ ·) #[]⟩ : Str) = reps z n := str_ext (by
          rw [reps_toList]
          have := foldl_reps z.cps n #[]
          simpa using this)
        refine ⟨?_, fin _ _ _ e⟩
        rw [e]
        have h3 := reps_len z n
        have h4 : n * z.length ≤ 1000 * 1000 := Nat.mul_le_mul hn hz
        rw [sizeLine_eq]
        omega

/-! ### text.replace(A, B), A and B names of the module that hold two texts -/
def tRepG (to : TE) (y z : Str) : TE := fun σ H Q => to σ H fun v H1 => ∃ x, v = .str x ∧ x.length + (x.length + 1) * z.length ≤ 16777216 ∧ Q (.str (Txt.replace x y z)) H1
theorem pe_repG {X : Cx} {o : Expr} {to : TE} {a b y z : Str} {u v : Tok} {pa pb apos pos : Pos} (ho : PE X o to) (ma : X.mg a = some (.str y u)) (mb : X.mg b = some (.str z v)) (hu : u ≠ 0) (hv : v ≠ 0) (huv : u ≠ v) (hyz : (y == z) = false)
    (ga : Gl X a := by rfl) (gb : Gl X b := by rfl) (da : (a == ("__debug__" : Str)) = false := by decide) (db : (b == ("__debug__" : Str)) = false := by decide)
    (hst : starEach [.Name a pa, .Name b pb] X.env = [(false, eval (.Name a pa) X.env), (false, eval (.Name b pb) X.env)] := by rfl)
    (hbase : attributeBase o "replace" X.env (eval o X.env) = eval o X.env := by rfl) (hline : (apos.endLine == pos.line) = true := by rfl) :
    PE X (.Call (.Attribute o "replace" apos) [.Name a pa, .Name b pb] [] pos) (tRepG to y z) := by
  refine ⟨fun pins s σ H Q I h => ?_⟩
  refine PySem.Call_method2 hbase hst hline (thn (ho.run pins s σ H _ I h) fun v' s1 q => ?_)
  obtain ⟨v', H1, I1, r1, x, e1, hb, q⟩ := q
  subst e1
  obtain ⟨tx, e2⟩ := r1
  subst e2
  refine ⟨"str", _, PySem.F.plainAttrs_str, PySem.F.slot_str_replace, PySem.F.type_str_replace, typeIs_str _ _ _, (fun _ e => nomatch e), Calls.callWith_builtin rfl (Calls.evalArgs_plain (Calls.spliced_cons ?_))⟩
  refine ld_glob I1 ga ma (Calls.spliced_cons (ld_glob I1 gb mb (Calls.spliced_nil ?_) db)) da
  exact PySem.SC.replace hu hv huv hyz hb fun t' k => ⟨.str (Txt.replace x y z), H1, I1.tok k, ⟨t', rfl⟩, q⟩
theorem replL_one (a b : Nat) : ∀ l : List Nat, StrLaws.replL [a] [b] l = l.map fun c => if c = a then b else c
  | [] => StrLaws.replL_nil
  | c :: r => by
    by_cases h : c = a
    · subst h
      rw [StrLaws.replL_hit (by simp) (by simp)]
      show [b] ++ StrLaws.replL [c] [b] r = _
      rw [replL_one c b r]
      simp
    · rw [StrLaws.replL_miss (by simpa using h), replL_one a b r]
      simp [h]

/-! ### texts.count(text) -/
def rCntS (K : PySem.W.Frag) : V → List V → Hp → VK → Prop := fun x xs H Q => ∃ (p : Addr) (ys : List Str) (z : Str), x = .ref p ∧ xs = [.str z] ∧ SqL K H p (ys.map V.str) ∧ Q (.int (ys.count z : Nat)) H
def eqs (z : Str) : Value → Bool
  | .str y _ => y == z
  | _ => false
theorem eqs_count (z : Str) : ∀ {ys : List Str} {its : List Value}, Vals (ys.map V.str) its → its.countP (eqs z) = ys.count z
  | [], _, .nil => rfl
  | y :: ys, _, .cons q t => by
    obtain ⟨tk, rfl⟩ := q
    rw [List.countP_cons, List.count_cons, eqs_count z t]
    rfl
theorem eqs_at (z : Str) (t : Tok) (A : Around) (s : Shared) : ∀ {ys : List Str} {its : List Value}, Vals (ys.map V.str) its → ∀ y ∈ its, SeqAt.EqAt A s y (.str z t) (eqs z y)
  | [], _, .nil, _, h => nomatch h
  | x :: ys, _, .cons q r, y, h => by
    rcases List.mem_cons.mp h with e | h
    · subst e
      obtain ⟨tk, rfl⟩ := q
      exact SeqAt.EqAt.str_str x tk z t
    · exact eqs_at z t A s r y h
theorem mt_scount {X : Cx} : MtR X "list.count" (rCntS X.K) := by
  intro pins s σ H x xs v us Q I rx rxs h
  obtain ⟨p, ys, z, rfl, rfl, hs, q⟩ := h
  cases rx
  obtain ⟨u, rfl, ru⟩ := rxs.one
  obtain ⟨t, rfl⟩ := ru
  obtain ⟨its, rv, ⟨⟨cls, dd, data, sl⟩, n, ho, hc, hdn, hd⟩, hlen⟩ := I.list hs
  simp only at hc hd
  subst hc hd
  refine call_meets PySem.F.slot_list_count ⟨_, ho, rfl⟩ PySem.F.entry_list_count (PySem.F.args_list_count_2 _ _)
    (SeqAt.list_countAt p its.toArray n dd sl (.str z t) (eqs z)) ⟨ho, fun y hy => eqs_at z t _ _ rv y (by simpa using hy), ?_⟩
  have ec : its.toArray.toList.countP (eqs z) = ys.count z := eqs_count z rv
  refine ⟨.int (ys.count z : Nat), H, I.tok _, ⟨s.toks, ?_⟩, q⟩
  show Value.int ((its.toArray.toList.countP (eqs z) : Nat) : Int) s.toks = Value.int ((ys.count z : Nat) : Int) s.toks
  rw [ec]
end Mi

set_option maxHeartbeats 2000000
namespace Mi
open PySem PySem.Spec PyProof.Rows L2 Evl

/-! ### what a value is: a flat one, a list that is read, a tracked list, a tuple -/
inductive Dd where
  | v (x : V)
  | l (xs : List V)
  | n (xs : List V)
  | u (xs : List V)
def Is (K : PySem.W.Frag) (H : Hp) : Dd → V → Prop
  | .v x, y => y = x
  | .l xs, y => ∃ p, y = .ref p ∧ SqL K H p xs
  | .n xs, y => ∃ p, y = .ref p ∧ H p = some (.lst xs)
  | .u xs, y => ∃ p, y = .ref p ∧ SqT K H p xs
abbrev Dd.i (i : Int) : Dd := .v (.int i)
abbrev Dd.s (x : Str) : Dd := .v (.str x)
abbrev Dd.b (b : Bool) : Dd := .v (.bl b)
abbrev vis (ns : List Int) : List V := ns.map V.int
abbrev vss (ys : List Str) : List V := ys.map V.str
section
variable {K : PySem.W.Frag} {H H' : Hp} {d : Dd} {x y : V}
theorem Is.mono (e : Ex H H') (h : Is K H d x) : Is K H' d x := by
  cases d with
  | v _ => exact h
  | l _ => obtain ⟨p, e1, q⟩ := h; exact ⟨p, e1, ex_l e q⟩
  | n _ => obtain ⟨p, e1, q⟩ := h; exact ⟨p, e1, e p _ q⟩
  | u _ => obtain ⟨p, e1, q⟩ := h; exact ⟨p, e1, ex_t e q⟩
theorem Is.n2l {xs : List V} (h : Is K H (.n xs) x) : Is K H (.l xs) x := by
  obtain ⟨p, e1, q⟩ := h; exact ⟨p, e1, sq_of q⟩
end
def IsAll (K : PySem.W.Frag) (H : Hp) (ds : List Dd) (vs : List V) : Prop := Paired (fun d v => Is K H d v) ds vs

/-! ### what evaluates to what -/
def Er (K : PySem.W.Frag) (te : TE) (σ : L2.St) (H : Hp) (d : Dd) : Prop := ∀ H1, Ex H H1 → ∀ Q : VK, (∀ v H2, Ex H1 H2 → Is K H2 d v → Q v H2) → te σ H1 Q
def Era (K : PySem.W.Frag) (ta : TA) (σ : L2.St) (H : Hp) (ds : List Dd) : Prop := ∀ H1, Ex H H1 → ∀ Q : List V → Hp → Prop, (∀ vs H2, Ex H1 H2 → IsAll K H2 ds vs → Q vs H2) → ta σ H1 Q
def Ro (K : PySem.W.Frag) (r : R2) (d1 d2 d : Dd) : Prop := ∀ x y H1, Is K H1 d1 x → Is K H1 d2 y → ∀ Q : VK, (∀ v H2, Ex H1 H2 → Is K H2 d v → Q v H2) → r x y H1 Q
def Rc (K : PySem.W.Frag) (r : List V → Hp → VK → Prop) (ds : List Dd) (d : Dd) : Prop := ∀ vs H1, IsAll K H1 ds vs → ∀ Q : VK, (∀ v H2, Ex H1 H2 → Is K H2 d v → Q v H2) → r vs H1 Q
section
variable {K : PySem.W.Frag} {σ : L2.St} {H H' : Hp} {te ta tb tc : TE} {t u : TT} {tr : TA} {d d1 d2 d' : Dd} {x y : V} {r : R2}
theorem IsAll.mono (e : Ex H H') : ∀ {ds : List Dd} {vs : List V}, IsAll K H ds vs → IsAll K H' ds vs
  | _, _, .nil => .nil
  | _, _, .cons a b => .cons (a.mono e) (IsAll.mono e b)
theorem Er.mono (e : Ex H H') (h : Er K te σ H d) : Er K te σ H' d := fun H1 a Q q => h H1 (e.trans a) Q q
theorem Er.to (h : Er K te σ H d) (e : d = d') : Er K te σ H d' := e ▸ h
theorem Er.n2l {xs : List V} (h : Er K te σ H (.n xs)) : Er K te σ H (.l xs) := fun H1 a Q q => h H1 a Q fun v H2 e z => q v H2 e z.n2l
theorem er_var {i : Nat} (h : σ[i]? = some (some x)) (hd : Is K H d x) : Er K (tVar i) σ H d := fun H1 e _ q => ⟨x, h, q x H1 (Ex.refl H1) (hd.mono e)⟩
theorem er_v {i : Nat} (h : σ[i]? = some (some x)) : Er K (tVar i) σ H (.v x) := er_var h rfl
theorem er_c : Er K (tC x) σ H (.v x) := fun H1 _ _ q => q x H1 (Ex.refl H1) rfl
theorem er_op (ha : Er K ta σ H d1) (hb : Er K tb σ H d2) (hr : Ro K r d1 d2 d) : Er K (tOp r ta tb) σ H d := fun H1 e Q q =>
  ha H1 e _ fun v1 H2 e2 z1 => hb H2 (e.trans e2) _ fun v2 H3 e3 z2 => hr v1 v2 H3 (z1.mono e3) z2 Q fun v H4 e4 z => q v H4 ((e2.trans e3).trans e4) z
theorem era_nil : Era K tNil σ H [] := fun H1 _ _ q => q [] H1 (Ex.refl H1) .nil
theorem era_cons {ds : List Dd} (h : Er K ta σ H d) (hr : Era K tr σ H ds) : Era K (tCons ta tr) σ H (d :: ds) := fun H1 e _ q =>
  h H1 e _ fun v1 H2 e2 z1 => hr H2 (e.trans e2) _ fun vs H3 e3 z2 => q _ H3 (e2.trans e3) (.cons (z1.mono e3) z2)
theorem er_cb {rc : List V → Hp → VK → Prop} {ds : List Dd} (h : Era K tr σ H ds) (hr : Rc K rc ds d) : Er K (tCB rc tr) σ H d := fun H1 e Q q =>
  h H1 e _ fun vs H2 e2 z => hr vs H2 z Q fun v H3 e3 z3 => q v H3 (e2.trans e3) z3
theorem flat_all {vs : List V} {ws : List V} (h : IsAll K H (vs.map Dd.v) ws) : ws = vs := by
  induction vs generalizing ws with
  | nil => cases h; rfl
  | cons a r ih =>
    cases h with
    | cons h1 h2 =>
      rw [ih h2]
      have e : _ = a := h1
      rw [e]
theorem er_lst {vs : List V} (h : Era K tr σ H (vs.map Dd.v)) (hl : vs.length ≤ 100000) : Er K (tLst tr) σ H (.n vs) := fun H1 e _ q =>
  h H1 e _ fun ws H2 e2 z => by
    have ew := flat_all z
    subst ew
    exact ⟨sz_of hl, fun p hp => q _ _ (e2.trans (Ex.new hp)) ⟨p, rfl, upd_same⟩⟩
theorem er_tup {vs : List V} (h : Era K tr σ H (vs.map Dd.v)) (hl : vs.length ≤ 100000) : Er K (tTup tr) σ H (.u vs) := fun H1 e _ q =>
  h H1 e _ fun ws H2 e2 z => by
    have ew := flat_all z
    subst ew
    exact ⟨sz_of hl, fun p hp => q _ _ (e2.trans (Ex.new hp)) ⟨p, rfl, st_of upd_same⟩⟩

/-! ### operators -/
theorem ro_I0 {g : Int → Int → V} {i j : Int} : Ro K (rI0 g) (.v (.int i)) (.v (.int j)) (.v (g i j)) := by
  rintro _ _ H1 rfl rfl Q q
  exact ⟨i, j, rfl, rfl, q _ H1 (Ex.refl H1) rfl⟩
theorem ro_I {C : Int → Int → Prop} {g : Int → Int → V} {i j : Int} (hc : C i j) : Ro K (rI C g) (.v (.int i)) (.v (.int j)) (.v (g i j)) := by
  rintro _ _ H1 rfl rfl Q q
  exact ⟨i, j, rfl, rfl, hc, q _ H1 (Ex.refl H1) rfl⟩
theorem ro_eq (h : scal x y = true) : Ro K rEq (.v x) (.v y) (.v (.bl (decide (x = y)))) := by
  rintro _ _ H1 rfl rfl Q q
  exact ⟨h, q _ H1 (Ex.refl H1) rfl⟩
theorem ro_ne (h : scal x y = true) : Ro K rNe (.v x) (.v y) (.v (.bl (!decide (x = y)))) := by
  rintro _ _ H1 rfl rfl Q q
  exact ⟨h, q _ H1 (Ex.refl H1) rfl⟩
theorem ro_ixL {xs : List V} {i : Int} (h0 : 0 ≤ i) (h : xs[i.toNat]? = some x) : Ro K (rIxL K) (.l xs) (.v (.int i)) (.v x) := by
  rintro _ _ H1 ⟨p, rfl, hp⟩ rfl Q q
  have e : ((i.toNat : Nat) : Int) = i := Int.toNat_of_nonneg h0
  exact ⟨p, xs, i, x, rfl, rfl, hp, by rw [← e]; exact atI_nat h, q _ H1 (Ex.refl H1) rfl⟩
theorem ro_ixN {xs : List V} {i : Int} (h0 : 0 ≤ i) (h : xs[i.toNat]? = some x) : Ro K (rIxL K) (.n xs) (.v (.int i)) (.v x) := fun v w H1 a b => ro_ixL h0 h v w H1 a.n2l b
theorem ro_ixT {xs : List V} {i : Int} (h0 : 0 ≤ i) (h : xs[i.toNat]? = some x) : Ro K (rIxT K) (.u xs) (.v (.int i)) (.v x) := by
  rintro _ _ H1 ⟨p, rfl, hp⟩ rfl Q q
  have e : ((i.toNat : Nat) : Int) = i := Int.toNat_of_nonneg h0
  exact ⟨p, xs, i, x, rfl, rfl, hp, by rw [← e]; exact atI_nat h, q _ H1 (Ex.refl H1) rfl⟩
theorem ro_ixS {z : Str} {i : Int} {c : Nat} (hz : z.length ≤ 100000) (h0 : 0 ≤ i) (h : z.cps.toList[i.toNat]? = some c) : Ro K rIxS (.v (.str z)) (.v (.int i)) (.v (sgn c)) := by
  rintro _ _ H1 rfl rfl Q q
  have e : ((i.toNat : Nat) : Int) = i := Int.toNat_of_nonneg h0
  exact ⟨z, i, c, rfl, rfl, sz_of hz, by rw [← e]; exact atI_nat h, q _ H1 (Ex.refl H1) rfl⟩
def rAddS2 : R2 := fun x y H Q => ∃ i j, x = .str i ∧ y = .str j ∧ i.length + j.length ≤ sizeLine ∧ Q (.str (i ++ j)) H
theorem op_addS {X : Cx} : OpR X (binaryOp .Add) rAddS2 := op_add_str
theorem ro_addS {a b : Str} (h : a.length + b.length ≤ 100000) : Ro K rAddS2 (.v (.str a)) (.v (.str b)) (.v (.str (a ++ b))) := by
  rintro _ _ H1 rfl rfl Q q
  exact ⟨a, b, rfl, rfl, sz_of h, q _ H1 (Ex.refl H1) rfl⟩
theorem ro_mulS {a : Str} {n : Nat} (hn : n ≤ 1000) (ha : a.length ≤ 1000) : Ro K rMulS (.v (.str a)) (.v (.int (n : Int))) (.v (.str (reps a n))) := by
  rintro _ _ H1 rfl rfl Q q
  exact ⟨a, n, rfl, rfl, hn, ha, q _ H1 (Ex.refl H1) rfl⟩
theorem ro_cat {xs zs : List V} (h : xs.length + zs.length ≤ 100000) : Ro K rCat (.n xs) (.n zs) (.n (xs ++ zs)) := by
  rintro _ _ H1 ⟨p, rfl, hp⟩ ⟨p', rfl, hp'⟩ Q q
  exact ⟨p, p', xs, zs, rfl, rfl, hp, hp', sz_of h, fun l hl => q _ _ (Ex.new hl) ⟨l, rfl, upd_same⟩⟩
theorem ro_rep {xs : List V} {k : Nat} (h : xs.length * k ≤ 100000) (hk : k ≤ 100000) : Ro K rRep (.n xs) (.v (.int (k : Int))) (.n (List.replicate k xs).flatten) := by
  rintro _ _ H1 ⟨p, rfl, hp⟩ rfl Q q
  exact ⟨p, k, xs, rfl, rfl, hp, by omega, by omega, by rw [Int.toNat_natCast]; exact sz_of h, fun l hl => q _ _ (Ex.new hl) ⟨l, rfl, by rw [Int.toNat_natCast]; exact upd_same⟩⟩
theorem ro_inL {neg : Bool} {xs : List V} (hx : flatV x = true) (ha : xs.all flatV = true) : Ro K (rIn K neg) (.v x) (.l xs) (.v (.bl (if neg then !inV x xs else inV x xs))) := by
  rintro _ _ H1 rfl ⟨p, rfl, hp⟩ Q q
  exact ⟨p, xs, rfl, .inl hp, hx, ha, q _ H1 (Ex.refl H1) rfl⟩
theorem ro_inN {neg : Bool} {xs : List V} (hx : flatV x = true) (ha : xs.all flatV = true) : Ro K (rIn K neg) (.v x) (.n xs) (.v (.bl (if neg then !inV x xs else inV x xs))) := fun v w H1 a b => ro_inL hx ha v w H1 a b.n2l
theorem ro_inU {neg : Bool} {xs : List V} (hx : flatV x = true) (ha : xs.all flatV = true) : Ro K (rIn K neg) (.v x) (.u xs) (.v (.bl (if neg then !inV x xs else inV x xs))) := by
  rintro _ _ H1 rfl ⟨p, rfl, hp⟩ Q q
  exact ⟨p, xs, rfl, .inr hp, hx, ha, q _ H1 (Ex.refl H1) rfl⟩
theorem ro_inS {c : Nat} {z : Str} : Ro K rInS (.v (sgn c)) (.v (.str z)) (.v (.bl (decide (c ∈ z.cps.toList)))) := by
  rintro _ _ H1 rfl rfl Q q
  exact ⟨c, z, rfl, rfl, q _ H1 (Ex.refl H1) rfl⟩
theorem ro_niS {c : Nat} {z : Str} : Ro K rNotInS (.v (sgn c)) (.v (.str z)) (.v (.bl (!decide (c ∈ z.cps.toList)))) := by
  rintro _ _ H1 rfl rfl Q q
  exact ⟨c, z, rfl, rfl, q _ H1 (Ex.refl H1) rfl⟩
theorem ro_isN : Ro K rIsN (.v x) (.v .non) (.v (.bl (decide (x = .non)))) := by
  rintro _ _ H1 rfl rfl Q q
  exact ⟨rfl, q _ H1 (Ex.refl H1) rfl⟩
theorem ro_notN : Ro K rNotN (.v x) (.v .non) (.v (.bl (!decide (x = .non)))) := by
  rintro _ _ H1 rfl rfl Q q
  exact ⟨rfl, q _ H1 (Ex.refl H1) rfl⟩
end
end Mi

set_option maxHeartbeats 2000000
namespace Mi
open PySem PySem.Spec PyProof.Rows L2 Evl PySem.W
theorem zipS_at {x y : Str} {i : Nat} {a b : V} (h : (zipS x y)[i]? = some (a, b)) : ∃ c d, x.cps[i]? = some c ∧ y.cps[i]? = some d ∧ a = sgn c ∧ b = sgn d := by
  unfold zipS at h
  rw [List.getElem?_map] at h
  cases e : (x.cps.toList.zip y.cps.toList)[i]? with
  | none => rw [e] at h; cases h
  | some p =>
    rw [e] at h
    obtain ⟨c, d⟩ := p
    have h2 := List.getElem?_zip_eq_some.mp e
    have h3 : (sgn c, sgn d) = (a, b) := Option.some.inj h
    injection h3 with h4 h5
    exact ⟨c, d, by simpa using h2.1, by simpa using h2.2, h4.symm, h5.symm⟩
section
variable {K : PySem.W.Frag} {σ : L2.St} {H H' : Hp} {te ta tb tc : TE} {t u : TT} {tr : TA} {d d1 d2 d' : Dd} {x y : V} {r : R2}

/-! ### lists of whole numbers compared -/
theorem dpAll_ints : ∀ ns : List Int, DpAll K H (vis ns) (ns.map PyData.int)
  | [] => .nil
  | n :: r => .cons (.int n) (dpAll_ints r)
theorem eqv_ints : ∀ ns ms : List Int, PyData.eqvAll (ns.map PyData.int) (ms.map PyData.int) = decide (ns = ms)
  | [], [] => by simp [PyData.eqvAll]
  | [], _ :: _ => by simp [PyData.eqvAll]
  | _ :: _, [] => by simp [PyData.eqvAll]
  | a :: r, b :: t => by
    simp only [List.map_cons, PyData.eqvAll, PyData.eqv, eqv_ints r t]
    by_cases h : a = b <;> by_cases h' : r = t <;> simp [h, h']
theorem shaped_tup (ns : List Int) : SeqAt.shaped (.tuple (ns.map PyData.int)) = true := by
  simp [SeqAt.shaped, PyData.canLay0, PyData.depth, ke_canLayAll0, ke_depthAll]
theorem ro_eqL {ns ms : List Int} : Ro K (rEqD K) (.l (vis ns)) (.l (vis ms)) (.v (.bl (decide (ns = ms)))) := by
  rintro _ _ H1 ⟨p, rfl, hp⟩ ⟨p', rfl, hp'⟩ Q q
  refine ⟨_, _, .lst hp (dpAll_ints ns), .lst hp' (dpAll_ints ms), ke_shaped_ints ns, ke_shaped_ints ms, q _ H1 (Ex.refl H1) ?_⟩
  show V.bl (PyData.eqvAll _ _) = _
  rw [eqv_ints]
theorem ro_neL {ns ms : List Int} : Ro K (rNeD K) (.l (vis ns)) (.l (vis ms)) (.v (.bl (!decide (ns = ms)))) := by
  rintro _ _ H1 ⟨p, rfl, hp⟩ ⟨p', rfl, hp'⟩ Q q
  refine ⟨_, _, .lst hp (dpAll_ints ns), .lst hp' (dpAll_ints ms), ke_shaped_ints ns, ke_shaped_ints ms, q _ H1 (Ex.refl H1) ?_⟩
  show V.bl (!PyData.eqvAll _ _) = _
  rw [eqv_ints]
theorem ro_eqU {ns ms : List Int} : Ro K (rEqD K) (.u (vis ns)) (.u (vis ms)) (.v (.bl (decide (ns = ms)))) := by
  rintro _ _ H1 ⟨p, rfl, hp⟩ ⟨p', rfl, hp'⟩ Q q
  refine ⟨_, _, .tup hp (dpAll_ints ns), .tup hp' (dpAll_ints ms), shaped_tup ns, shaped_tup ms, q _ H1 (Ex.refl H1) ?_⟩
  show V.bl (PyData.eqvAll _ _) = _
  rw [eqv_ints]

/-! ### built-ins -/
def rInt1 : List V → Hp → VK → Prop := fun xs H Q => (∃ i, xs = [.int i] ∧ Q (.int i) H) ∨ ∃ k, xs = [.bl k] ∧ Q (.int (if k then 1 else 0)) H
def rTupS (K : PySem.W.Frag) : List V → Hp → VK → Prop := fun xs H Q => ∃ p ys, xs = [.ref p] ∧ ((SqL K H p ys ∧ ∀ l, H l = none → Q (.ref l) (upd H l (.tup ys))) ∨ (SqT K H p ys ∧ Q (.ref p) H))
def rLenStr : List V → Hp → VK → Prop := fun xs H Q => ∃ z, xs = [.str z] ∧ z.length ≤ sizeLine ∧ Q (.int z.length) H
theorem cr_len {X : Cx} : CallR X (.builtin "len") (rLenS X.K) := call_len_seq
theorem cr_lenStr {X : Cx} : CallR X (.builtin "len") rLenStr := call_len_str
theorem cr_int {X : Cx} : CallR X (.type "int") rInt1 := call_int1
theorem cr_list {X : Cx} : CallR X (.type "list") (rListS X.K) := call_list_of
theorem cr_tuple {X : Cx} : CallR X (.type "tuple") (rTupS X.K) := call_tuple_of
theorem cr_max2 {X : Cx} (hc : X.calm = true := by rfl) : CallR X (.builtin "max") rMax2 := call_max2 hc
theorem cr_isi {X : Cx} : CallR X (.builtin "isinstance") (rIsi X.K) := call_isi
theorem rc_lenL {xs : List V} : Rc K (rLenS K) [.l xs] (.v (.int (xs.length : Int))) := by
  rintro _ H1 (_ | ⟨⟨p, rfl, hp⟩, _ | _⟩) Q q
  exact ⟨p, xs, rfl, .inl hp, q _ H1 (Ex.refl H1) rfl⟩
theorem rc_lenN {xs : List V} : Rc K (rLenS K) [.n xs] (.v (.int (xs.length : Int))) := by
  rintro _ H1 (_ | ⟨⟨p, rfl, hp⟩, _ | _⟩) Q q
  exact ⟨p, xs, rfl, .inl (sq_of hp), q _ H1 (Ex.refl H1) rfl⟩
theorem rc_lenU {xs : List V} : Rc K (rLenS K) [.u xs] (.v (.int (xs.length : Int))) := by
  rintro _ H1 (_ | ⟨⟨p, rfl, hp⟩, _ | _⟩) Q q
  exact ⟨p, xs, rfl, .inr hp, q _ H1 (Ex.refl H1) rfl⟩
theorem rc_lenS {z : Str} (hz : z.length ≤ 100000) : Rc K rLenStr [.v (.str z)] (.v (.int (z.length : Int))) := by
  rintro _ H1 (_ | ⟨rfl, _ | _⟩) Q q
  exact ⟨z, rfl, sz_of hz, q _ H1 (Ex.refl H1) rfl⟩
theorem rc_int {i : Int} : Rc K rInt1 [.v (.int i)] (.v (.int i)) := by
  rintro _ H1 (_ | ⟨rfl, _ | _⟩) Q q
  exact .inl ⟨i, rfl, q _ H1 (Ex.refl H1) rfl⟩
theorem rc_intB {b : Bool} : Rc K rInt1 [.v (.bl b)] (.v (.int (if b then 1 else 0))) := by
  rintro _ H1 (_ | ⟨rfl, _ | _⟩) Q q
  exact .inr ⟨b, rfl, q _ H1 (Ex.refl H1) rfl⟩
theorem rc_max2 {i j : Int} : Rc K rMax2 [.v (.int i), .v (.int j)] (.v (.int (if j > i then j else i))) := by
  rintro _ H1 (_ | ⟨rfl, _ | ⟨rfl, _ | _⟩⟩) Q q
  exact ⟨i, j, rfl, q _ H1 (Ex.refl H1) rfl⟩
theorem rc_listL {xs : List V} : Rc K (rListS K) [.l xs] (.n xs) := by
  rintro _ H1 (_ | ⟨⟨p, rfl, hp⟩, _ | _⟩) Q q
  exact ⟨p, xs, rfl, .inl hp, fun l hl => q _ _ (Ex.new hl) ⟨l, rfl, upd_same⟩⟩
theorem rc_listU {xs : List V} : Rc K (rListS K) [.u xs] (.n xs) := by
  rintro _ H1 (_ | ⟨⟨p, rfl, hp⟩, _ | _⟩) Q q
  exact ⟨p, xs, rfl, .inr hp, fun l hl => q _ _ (Ex.new hl) ⟨l, rfl, upd_same⟩⟩
theorem rc_tupL {xs : List V} : Rc K (rTupS K) [.l xs] (.u xs) := by
  rintro _ H1 (_ | ⟨⟨p, rfl, hp⟩, _ | _⟩) Q q
  exact ⟨p, xs, rfl, .inl ⟨hp, fun l hl => q _ _ (Ex.new hl) ⟨l, rfl, st_of upd_same⟩⟩⟩
theorem rc_tupN {xs : List V} : Rc K (rTupS K) [.n xs] (.u xs) := fun vs H1 h Q q => by
  cases h with
  | cons a b => exact rc_tupL _ H1 (.cons a.n2l b) Q q
/-- isinstance(x, T) -/
theorem rc_isi {n : String} {b : Bool} (t : Value) (ht : ∀ H1 v, Is K H1 d v → TyX K H1 v t) (hk : PySem.W.kitOne K t (.type n) = some b) : Rc K (rIsi K) [d, .v (.ty n)] (.v (.bl b)) := by
  rintro _ H1 (_ | ⟨hd, _ | ⟨rfl, _ | _⟩⟩) Q q
  exact ⟨_, _, t, .type n, b, rfl, .ty n, ht _ _ hd, hk, q _ H1 (Ex.refl H1) rfl⟩
theorem ty_u {xs : List V} {H1 : Hp} {v : V} (h : Is K H1 (.u xs) v) : TyX K H1 v (.type "tuple") := by
  obtain ⟨p, rfl, hp⟩ := h
  rcases hp with (hp | ⟨o, hp⟩) | ⟨o, its, n, h1, h2, _⟩
  · exact .base (.tup hp)
  · exact .fTuple hp
  · exact .kTuple h1 h2
theorem ty_l {xs : List V} {H1 : Hp} {v : V} (h : Is K H1 (.l xs) v) : TyX K H1 v (.type "list") := by
  obtain ⟨p, rfl, hp⟩ := h
  rcases hp with (hp | ⟨o, hp⟩) | ⟨o, its, n, h1, h2, _⟩
  · exact .base (.lst hp)
  · exact .base (.frz hp)
  · exact .kList h1 h2
theorem rc_isi_int {n : String} {i : Int} {b : Bool} (h : kitB "int" n = some b) : Rc K (rIsi K) [.v (.int i), .v (.ty n)] (.v (.bl b)) := rc_isi (.type "int") (fun _ _ e => by rw [show _ = V.int i from e]; exact .base (.int i)) (kit_ty h)
theorem rc_isi_str {n : String} {i : Str} {b : Bool} (h : kitB "str" n = some b) : Rc K (rIsi K) [.v (.str i), .v (.ty n)] (.v (.bl b)) := rc_isi (.type "str") (fun _ _ e => by rw [show _ = V.str i from e]; exact .base (.str i)) (kit_ty h)
theorem rc_isi_bl {n : String} {i : Bool} {b : Bool} (h : kitB "bool" n = some b) : Rc K (rIsi K) [.v (.bl i), .v (.ty n)] (.v (.bl b)) := rc_isi (.type "bool") (fun _ _ e => by rw [show _ = V.bl i from e]; exact .base (.bl i)) (kit_ty h)
theorem rc_isi_non {n : String} {b : Bool} (h : kitB "NoneType" n = some b) : Rc K (rIsi K) [.v .non, .v (.ty n)] (.v (.bl b)) := rc_isi (.type "NoneType") (fun _ _ e => by rw [show _ = V.non from e]; exact .base .non) (kit_ty h)
theorem rc_isi_u {n : String} {xs : List V} {b : Bool} (h : kitB "tuple" n = some b) : Rc K (rIsi K) [.u xs, .v (.ty n)] (.v (.bl b)) := rc_isi (.type "tuple") (fun _ _ e => ty_u e) (kit_ty h)
theorem rc_isi_l {n : String} {xs : List V} {b : Bool} (h : kitB "list" n = some b) : Rc K (rIsi K) [.l xs, .v (.ty n)] (.v (.bl b)) := rc_isi (.type "list") (fun _ _ e => ty_l e) (kit_ty h)

/-! ### methods -/
def Rm (K : PySem.W.Frag) (T : String) (r : V → List V → Hp → VK → Prop) (d0 : Dd) (ds : List Dd) (d : Dd) : Prop :=
  (∀ x H1, Is K H1 d0 x → tyV K T x H1) ∧ ∀ x vs H1, Is K H1 d0 x → IsAll K H1 ds vs → ∀ Q : VK, (∀ v H2, Ex H1 H2 → Is K H2 d v → Q v H2) → r x vs H1 Q
theorem er_bm {T : String} {rm : V → List V → Hp → VK → Prop} {ds : List Dd} {d0 : Dd} {to : TE} (ho : Er K to σ H d0) (h : Era K tr σ H ds) (hr : Rm K T rm d0 ds d) : Er K (tBM K T rm to tr) σ H d := fun H1 e Q q =>
  ho H1 e _ fun x H2 e2 z => ⟨hr.1 x H2 z, h H2 (e.trans e2) _ fun vs H3 e3 z3 => hr.2 x vs H3 (z.mono e3) z3 Q fun v H4 e4 z4 => q v H4 ((e2.trans e3).trans e4) z4⟩
def rJoin (K : PySem.W.Frag) : V → List V → Hp → VK → Prop := fun x xs H Q => ∃ a p, ∃ ys : List Str, x = .str a ∧ xs = [.ref p] ∧ (SqL K H p (ys.map V.str) ∨ SqT K H p (ys.map V.str)) ∧ (ys.map (·.length)).sum + ys.length * a.length ≤ 16777216 ∧ Q (.str (Txt.join a ys)) H
theorem mt_joinN {X : Cx} : MtR X "str.join" (rJoin X.K) := mt_join
def rSIndex : V → List V → Hp → VK → Prop := fun x xs H Q => ∃ a b i rest, x = .str a ∧ xs = [.str b] ∧ Builtin.Str.occurrences a b 0 a.length 1 = i :: rest ∧ Q (.int (i : Nat)) H
theorem mt_sindexN {X : Cx} : MtR X "str.index" rSIndex := mt_sindex
theorem rm_join {a : Str} {ys : List Str} (hz : (ys.map (·.length)).sum + ys.length * a.length ≤ 100000) : Rm K "str" (rJoin K) (.v (.str a)) [.n (vss ys)] (.v (.str (Txt.join a ys))) := by
  refine ⟨fun x H1 e => ?_, ?_⟩
  · rw [show x = V.str a from e]; exact rfl
  · rintro _ _ H1 rfl (_ | ⟨⟨p, rfl, hp⟩, _ | _⟩) Q q
    exact ⟨a, p, ys, rfl, rfl, .inl (sq_of hp), by omega, q _ H1 (Ex.refl H1) rfl⟩
theorem rm_sindex {a b : Str} {i : Nat} {rest : List Nat} (h : Builtin.Str.occurrences a b 0 a.length 1 = i :: rest) : Rm K "str" rSIndex (.v (.str a)) [.v (.str b)] (.v (.int (i : Int))) := by
  refine ⟨fun x H1 e => ?_, ?_⟩
  · rw [show x = V.str a from e]; exact rfl
  · rintro _ _ H1 rfl (_ | ⟨rfl, _ | _⟩) Q q
    exact ⟨a, b, i, rest, rfl, rfl, h, q _ H1 (Ex.refl H1) rfl⟩
theorem rm_count {ys : List Str} {z : Str} : Rm K "list" (rCntS K) (.l (vss ys)) [.v (.str z)] (.v (.int (ys.count z : Nat))) := by
  refine ⟨fun x H1 e => ?_, ?_⟩
  · obtain ⟨p, rfl, hp⟩ := e
    exact .inl ⟨rfl, _, hp⟩
  · rintro _ _ H1 ⟨p, rfl, hp⟩ (_ | ⟨rfl, _ | _⟩) Q q
    exact ⟨p, ys, z, rfl, rfl, hp, q _ H1 (Ex.refl H1) rfl⟩
theorem er_repG {a y z : Str} (h : Er K te σ H (.v (.str a))) (hz : a.length ≤ 1000) (hz2 : z.length ≤ 1000) : Er K (tRepG te y z) σ H (.v (.str (Txt.replace a y z))) := fun H1 e Q q =>
  h H1 e _ fun v H2 e2 z2 => ⟨a, z2, by
    have : (a.length + 1) * z.length ≤ 1001 * 1000 := Nat.mul_le_mul (by omega) hz2
    omega, q _ H2 e2 rfl⟩

/-! ### slices -/
def Eo (to : TO) (σ : L2.St) (H : Hp) (o : Option Int) : Prop := EvO to σ H o
theorem eo_non : EvO tNoPart σ H none := eo_none
theorem eo_of {i : Int} (h : Er K te σ H (.v (.int i))) : EvO (tPart te) σ H (some i) := fun H1 e _ q => h H1 e _ fun v H2 e2 z => ⟨i, z, q H2 e2⟩
theorem er_slL {tl th : TO} {xs : List V} {lo hi : Option Int} (h : Er K te σ H (.l xs)) (h1 : EvO tl σ H lo) (h2 : EvO th σ H hi) : Er K (tSl (rSlL K) te tl th) σ H (.n (cutV xs lo hi)) := fun H1 e _ q =>
  h H1 e _ fun v H2 e2 ⟨p, ep, hp⟩ => h1 H2 (e.trans e2) _ fun H3 e3 => h2 H3 ((e.trans e2).trans e3) _ fun H4 e4 => by
    subst ep
    exact ⟨p, xs, rfl, ex_l (e3.trans e4) hp, fun l hl => q _ _ (((e2.trans e3).trans e4).trans (Ex.new hl)) ⟨l, rfl, upd_same⟩⟩
theorem er_slS {tl th : TO} {z : Str} {lo hi : Option Int} (h : Er K te σ H (.v (.str z))) (hz : z.length ≤ 100000) (h1 : EvO tl σ H lo) (h2 : EvO th σ H hi) : Er K (tSl rSlS te tl th) σ H (.v (.str (cutS z lo hi))) := fun H1 e _ q =>
  h H1 e _ fun v H2 e2 ev => h1 H2 (e.trans e2) _ fun H3 e3 => h2 H3 ((e.trans e2).trans e3) _ fun H4 e4 => ⟨z, ev, sz_of hz, q _ H4 ((e2.trans e3).trans e4) rfl⟩

/-! ### tests, choices -/
theorem et_t {b : Bool} (h : Er K te σ H (.v (.bl b))) : EvT (tTest te) σ H b := fun H1 e _ q => h H1 e _ fun v H2 e2 z => ⟨b, z, q H2 e2⟩
theorem et_v {b : Bool} (h : Er K te σ H (.v (.bl b))) : EvT (tB te) σ H b := fun H1 e _ q => h H1 e _ fun v H2 e2 z => ⟨b, z, q H2 e2⟩
theorem er_if {b : Bool} (h : EvT t σ H b) (h1 : b = true → Er K ta σ H d) (h2 : b = false → Er K tb σ H d) : Er K (tIf t ta tb) σ H d := fun H1 e Q q => h H1 e _ fun H2 e2 => by
  cases b with
  | true =>
    show ta σ H2 Q
    exact h1 rfl H2 (e.trans e2) Q fun v H3 e3 z => q v H3 (e2.trans e3) z
  | false =>
    show tb σ H2 Q
    exact h2 rfl H2 (e.trans e2) Q fun v H3 e3 z => q v H3 (e2.trans e3) z
theorem er_andV {a b : Bool} (h1 : Er K ta σ H (.v (.bl a))) (h2 : a = true → Er K tb σ H (.v (.bl b))) : Er K (tAndV ta tb) σ H (.v (.bl (a && b))) := fun H1 e Q q => h1 H1 e _ fun v H2 e2 z => ⟨a, z, by
  cases a with
  | true =>
    show tb σ H2 Q
    exact h2 rfl H2 (e.trans e2) Q fun v H3 e3 z => q v H3 (e2.trans e3) z
  | false =>
    show Q (.bl false) H2
    exact q _ H2 e2 rfl⟩
theorem er_orV {a b : Bool} (h1 : Er K ta σ H (.v (.bl a))) (h2 : a = false → Er K tb σ H (.v (.bl b))) : Er K (tOrV ta tb) σ H (.v (.bl (a || b))) := fun H1 e Q q => h1 H1 e _ fun v H2 e2 z => ⟨a, z, by
  cases a with
  | true =>
    show Q (.bl true) H2
    exact q _ H2 e2 rfl
  | false =>
    show tb σ H2 Q
    exact h2 rfl H2 (e.trans e2) Q fun v H3 e3 z => q v H3 (e2.trans e3) z⟩
theorem er_notV {a : Bool} (h1 : Er K ta σ H (.v (.bl a))) : Er K (tNotV ta) σ H (.v (.bl (!a))) := fun H1 e Q q => h1 H1 e _ fun v H2 e2 z => ⟨a, z, q _ H2 e2 rfl⟩

/-! ### calls of the text's own defs -/
def spR (K : PySem.W.Frag) {A : Type} (pre : A → Prop) (args : A → List Dd) (ret : A → Dd) : Sp := fun vs H Q _ => ∃ a : A, pre a ∧ IsAll K H (args a) vs ∧ ∀ v H', Ex H H' → Is K H' (ret a) v → Q v H'
theorem er_call {A : Type} {pre : A → Prop} {args : A → List Dd} {ret : A → Dd} {E : XK} {ds : List Dd} (a : A) (h : Era K tr σ H ds) (hd : ds = args a) (hp : pre a) : Er K (tCall (spR K pre args ret) [] E tr) σ H (ret a) := fun H1 e Q q =>
  h H1 e _ fun vs H2 e2 z => by
    rw [List.append_nil]
    exact ⟨a, hp, hd ▸ z, fun v H' e3 z3 => q v H' (e2.trans e3) z3⟩
theorem er_call2 {A : Type} {pre : A → Prop} {args : A → List Dd} {ret : A → Dd} (a : A) (h1 : Er K ta σ H d1) (h2 : Er K tb σ H d2) (hd : [d2, d1] = args a) (hp : pre a) : Er K (tCall2 (spR K pre args ret) ta tb) σ H (ret a) := fun H1 e Q q =>
  h1 H1 e _ fun v1 H2 e2 z1 => h2 H2 (e.trans e2) _ fun v2 H3 e3 z2 => ⟨v1, v2, rfl, a, hp, hd ▸ .cons z2 (.cons (z1.mono e3) .nil), fun v H' e4 z => q v H' ((e2.trans e3).trans e4) z⟩
theorem er_call1 {A : Type} {pre : A → Prop} {args : A → List Dd} {ret : A → Dd} (a : A) (h1 : Er K ta σ H d1) (hd : [d1] = args a) (hp : pre a) : Er K (tCall1 (spR K pre args ret) ta) σ H (ret a) := fun H1 e Q q =>
  h1 H1 e _ fun v1 H2 e2 z1 => ⟨v1, rfl, a, hp, hd ▸ .cons z1 .nil, fun v H' e4 z => q v H' (e2.trans e4) z⟩

/-! ### statements -/
variable {D : Ends} {tu tw tz : TS} {g : TG}
theorem a_asg {i : Nat} (h : Er K te σ H d) (k : ∀ v H1, Ex H H1 → Is K H1 d v → tz D (σ.set i (some v)) H1) : tSeq (tAsg te (gName i)) tz D σ H := h H (Ex.refl H) _ fun v H1 e z => k v H1 e z
theorem a_asg1 {i : Nat} (h : Er K te σ H d) (k : ∀ v H1, Ex H H1 → Is K H1 d v → D.nx (σ.set i (some v)) H1) : tAsg te (gName i) D σ H := h H (Ex.refl H) _ fun v H1 e z => k v H1 e z
theorem a_ret (h : Er K te σ H d) (k : ∀ v H1, Ex H H1 → Is K H1 d v → D.rt v H1) : tRet te D σ H := h H (Ex.refl H) _ k
/-- a new list that will grow -/
theorem a_new {i : Nat} (k : ∀ p H1, H p = none → Ex H H1 → H1 p = some (.lst []) → tz D (σ.set i (some (.ref p))) H1) : tSeq (tAsg (tLst tNil) (gName i)) tz D σ H :=
  ⟨Nat.zero_le _, fun p hp => k p _ hp (Ex.new hp) upd_same⟩
theorem a_app {l : Addr} {xs : List V} (hl : H l = some (.lst xs)) (ha : Er K ta σ H (.v (.ref l))) (h : Er K te σ H (.v x)) (hz : xs.length < 100000) (k : ∀ H1, Ex H H1 → D.nx σ (upd H1 l (.lst (xs ++ [x])))) :
    tDrop (tBM K "list" rAppend ta (tCons te tNil)) D σ H := ha H (Ex.refl H) _ fun v H1 e1 z1 => by
  have ez : v = .ref l := z1
  subst ez
  exact ⟨Or.inl ⟨rfl, xs, sq_of (e1 l _ hl)⟩, h H1 e1 _ fun v H2 e2 z2 => by
    have e3 : v = x := z2
    subst e3
    exact ⟨l, xs, v, rfl, rfl, e2 l _ (e1 l _ hl), sz_lt hz, k H2 (e1.trans e2)⟩⟩
theorem b_app {l : Addr} {xs : List V} (hl : H l = some (.lst xs)) (ha : Er K ta σ H (.v (.ref l))) (h : Er K te σ H (.v x)) (hz : xs.length < 100000) (k : ∀ H1, Ex H H1 → tz D σ (upd H1 l (.lst (xs ++ [x])))) :
    tSeq (tDrop (tBM K "list" rAppend ta (tCons te tNil))) tz D σ H := a_app (D := { D with nx := tz D }) hl ha h hz k
theorem a_forR1 {ta : TA} {j : Nat} {n : Nat} (h : Era K ta σ H [.v (.int (n : Int))]) (hn : n ≤ 100000) (Pv : Nat → L2.St → Hp → Prop) (h0 : ∀ H1, Ex H H1 → Pv 0 σ H1)
    (hs : ∀ (i : Nat) σ' H', i < n → Pv i σ' H' → tu { D with nx := Pv (i + 1), ct := Pv (i + 1), bk := D.nx } (σ'.set j (some (.int (i : Int)))) H') (hd : ∀ σ' H', Pv n σ' H' → D.nx σ' H') : tFor (iRng1 ta) (gName j) tu D σ H :=
  h H (Ex.refl H) _ fun vs H1 e z => by
    rcases z with _ | ⟨rfl, _ | _⟩
    exact ⟨(n : Int), rfl, by omega, by omega, for_range (lo := 0) (n := (n : Int).toNat) Pv (h0 H1 e) (fun i σ' H' hi p => by
      have e0 : (0 : Int) + (i : Int) = (i : Int) := Int.zero_add _
      show tu { D with nx := Pv (i + 1), ct := Pv (i + 1), bk := D.nx } (σ'.set j (some (.int ((0 : Int) + (i : Int))))) H'
      rw [e0]
      exact hs i σ' H' (by omega) p) (by rw [Int.toNat_natCast]; exact hd)⟩
theorem b_forR1 {ta : TA} {j : Nat} {n : Nat} (h : Era K ta σ H [.v (.int (n : Int))]) (hn : n ≤ 100000) (Pv : Nat → L2.St → Hp → Prop) (h0 : ∀ H1, Ex H H1 → Pv 0 σ H1)
    (hs : ∀ (i : Nat) σ' H', i < n → Pv i σ' H' → tu { D with nx := Pv (i + 1), ct := Pv (i + 1), bk := tz D } (σ'.set j (some (.int (i : Int)))) H') (hd : ∀ σ' H', Pv n σ' H' → tz D σ' H') : tSeq (tFor (iRng1 ta) (gName j) tu) tz D σ H :=
  a_forR1 (D := { D with nx := tz D }) h hn Pv h0 hs hd
/-- a loop over a list that stands at a: its place among the slots is known -/
theorem a_forA {a : Addr} {xs : List V} {tl : TE} {j : Nat} (h : Er K tl σ H (.v (.ref a))) (hx : SqL K H a xs) (Pv : Nat → L2.St → Hp → Prop) (h0 : ∀ H1, Ex H H1 → Pv 0 σ H1) (hl : ∀ i σ' H', i ≤ xs.length → Pv i σ' H' → SqL K H' a xs)
    (hs : ∀ i x σ' H', xs[i]? = some x → Pv i σ' H' → tu { D with nx := Pv (i + 1), ct := Pv (i + 1), bk := D.nx } (σ'.set j (some x)) H') (hd : ∀ σ' H', Pv xs.length σ' H' → D.nx σ' H') : tFor (iList K tl) (gName j) tu D σ H :=
  h H (Ex.refl H) _ fun v H1 e z => by
    have ez : v = .ref a := z
    subst ez
    exact ⟨a, rfl, ⟨xs, ex_l e hx⟩, for_list Pv (h0 H1 e) hl hs hd⟩
theorem b_forA {a : Addr} {xs : List V} {tl : TE} {j : Nat} (h : Er K tl σ H (.v (.ref a))) (hx : SqL K H a xs) (Pv : Nat → L2.St → Hp → Prop) (h0 : ∀ H1, Ex H H1 → Pv 0 σ H1) (hl : ∀ i σ' H', i ≤ xs.length → Pv i σ' H' → SqL K H' a xs)
    (hs : ∀ i x σ' H', xs[i]? = some x → Pv i σ' H' → tu { D with nx := Pv (i + 1), ct := Pv (i + 1), bk := tz D } (σ'.set j (some x)) H') (hd : ∀ σ' H', Pv xs.length σ' H' → tz D σ' H') : tSeq (tFor (iList K tl) (gName j) tu) tz D σ H :=
  a_forA (D := { D with nx := tz D }) h hx Pv h0 hl hs hd
/-- a loop over a list wherever it stands; nothing that stood ahead of the loop is changed -/
theorem a_forL {xs : List V} {tl : TE} {j : Nat} (h : Er K tl σ H (.l xs)) (Pv : Hp → Nat → L2.St → Hp → Prop) (h0 : ∀ H1, Ex H H1 → Pv H1 0 σ H1) (hl : ∀ H1 i σ' H', Pv H1 i σ' H' → Ex H1 H')
    (hs : ∀ H1 i x σ' H', Ex H H1 → xs[i]? = some x → Pv H1 i σ' H' → tu { D with nx := Pv H1 (i + 1), ct := Pv H1 (i + 1), bk := D.nx } (σ'.set j (some x)) H') (hd : ∀ H1 σ' H', Ex H H1 → Pv H1 xs.length σ' H' → D.nx σ' H') : tFor (iList K tl) (gName j) tu D σ H :=
  h H (Ex.refl H) _ fun v H1 e ⟨p, ep, hp⟩ => by
    subst ep
    exact ⟨p, rfl, ⟨xs, hp⟩, for_list (Pv H1) (h0 H1 e) (fun i σ' H' _ q => ex_l (hl H1 i σ' H' q) hp) (fun i x σ' H' hx q => hs H1 i x σ' H' e hx q) (fun σ' H' q => hd H1 σ' H' e q)⟩
theorem b_forL {xs : List V} {tl : TE} {j : Nat} (h : Er K tl σ H (.l xs)) (Pv : Hp → Nat → L2.St → Hp → Prop) (h0 : ∀ H1, Ex H H1 → Pv H1 0 σ H1) (hl : ∀ H1 i σ' H', Pv H1 i σ' H' → Ex H1 H')
    (hs : ∀ H1 i x σ' H', Ex H H1 → xs[i]? = some x → Pv H1 i σ' H' → tu { D with nx := Pv H1 (i + 1), ct := Pv H1 (i + 1), bk := tz D } (σ'.set j (some x)) H') (hd : ∀ H1 σ' H', Ex H H1 → Pv H1 xs.length σ' H' → tz D σ' H') : tSeq (tFor (iList K tl) (gName j) tu) tz D σ H :=
  a_forL (D := { D with nx := tz D }) h Pv h0 hl hs hd

/-! ### loops over pairs in new tuples -/
theorem for_P {ps : List (V × V)} {g : TG} {tb : TS} {D : Ends} {σ : L2.St} {H : Hp} (Pv : Nat → L2.St → Hp → Prop) (h0 : Pv 0 σ H)
    (hs : ∀ (i : Nat) (x y : V) (T : Addr) σ H, ps[i]? = some (x, y) → Pv i σ H → H T = none → g (.ref T) σ (upd H T (.tup [x, y])) fun σ2 H2 => tb { D with nx := Pv (i + 1), ct := Pv (i + 1), bk := D.nx } σ2 H2) (hd : ∀ σ H, Pv ps.length σ H → D.nx σ H) :
    ∃ W : Nat → Nat → L2.St → Hp → Prop, (∃ m, W 0 m σ H) ∧ ∀ i m σ H, W i m σ H →
      ((ItP ps).stop i H ∧ D.nx σ H) ∨ ((ItP ps).go i H ∧ ∃ N : L2.St → Hp → Prop, (∀ σ' H', N σ' H' → ∃ m', m' < m ∧ W (i + 1) m' σ' H') ∧ ∀ v H', (ItP ps).yld i H v H' → g v σ H' fun σ2 H2 => tb { D with nx := N, ct := N, bk := D.nx } σ2 H2) := by
  refine ⟨fun i m σ H => m = ps.length - i ∧ i ≤ ps.length ∧ Pv i σ H, ⟨ps.length, by simp, Nat.zero_le _, h0⟩, ?_⟩
  rintro i m σ H ⟨rfl, hi, p⟩
  by_cases hlt : i < ps.length
  · refine .inr ⟨hlt, Pv (i + 1), fun σ' H' p' => ⟨ps.length - (i + 1), by omega, rfl, hlt, p'⟩, fun v H' y => ?_⟩
    obtain ⟨T, x, y, rfl, hT, rfl, hxy⟩ := y
    exact hs i x y T σ H hxy p hT
  · have e : i = ps.length := by omega
    subst e
    exact .inl ⟨rfl, hd σ H p⟩
/-- for a, b in zip(one, two), two texts, the names in slots j1, j2 -/
theorem a_forZ {ta : TA} {j1 j2 : Nat} {one two : Str} (h : Era K ta σ H [.v (.str one), .v (.str two)]) (Pv : Nat → L2.St → Hp → Prop) (h0 : ∀ H1, Ex H H1 → Pv 0 σ H1)
    (hs : ∀ i c1 c2 σ' H' H2, one.cps[i]? = some c1 → two.cps[i]? = some c2 → Pv i σ' H' → Ex H' H2 → tu { D with nx := Pv (i + 1), ct := Pv (i + 1), bk := D.nx } ((σ'.set j1 (some (sgn c1))).set j2 (some (sgn c2))) H2)
    (hd : ∀ σ' H', Pv (min one.length two.length) σ' H' → D.nx σ' H') : tFor (iZipS ta) (gTup K 2 (gCons (gName j1) (gCons (gName j2) gNil))) tu D σ H :=
  h H (Ex.refl H) _ fun vs H1 e z => by
    rcases z with _ | ⟨rfl, _ | ⟨rfl, _ | _⟩⟩
    refine ⟨one, two, rfl, for_P Pv (h0 H1 e) (fun i x y T σ' H' hxy p hT => ?_) (fun σ' H' p => hd σ' H' (by rw [zipS_len] at p; exact p))⟩
    obtain ⟨c1, c2, h1, h2, e1, e2⟩ := zipS_at hxy
    subst e1
    subst e2
    exact ⟨T, [_, _], rfl, st_of upd_same, rfl, _, [_], rfl, _, [], rfl, rfl, hs i c1 c2 σ' H' _ h1 h2 p (Ex.new hT)⟩
theorem b_forZ {ta : TA} {j1 j2 : Nat} {one two : Str} (h : Era K ta σ H [.v (.str one), .v (.str two)]) (Pv : Nat → L2.St → Hp → Prop) (h0 : ∀ H1, Ex H H1 → Pv 0 σ H1)
    (hs : ∀ i c1 c2 σ' H' H2, one.cps[i]? = some c1 → two.cps[i]? = some c2 → Pv i σ' H' → Ex H' H2 → tu { D with nx := Pv (i + 1), ct := Pv (i + 1), bk := tz D } ((σ'.set j1 (some (sgn c1))).set j2 (some (sgn c2))) H2)
    (hd : ∀ σ' H', Pv (min one.length two.length) σ' H' → tz D σ' H') : tSeq (tFor (iZipS ta) (gTup K 2 (gCons (gName j1) (gCons (gName j2) gNil))) tu) tz D σ H :=
  a_forZ (D := { D with nx := tz D }) h Pv h0 hs hd
theorem q_tCut {M : L2.St → Hp → Prop} (h : tu { D with nx := M } σ H) (k : ∀ σ' H', M σ' H' → tz D σ' H') : tCut tu tz D σ H := ⟨M, h, k⟩
end

/-! ### list comprehensions whose items are flat -/
section
variable {K : PySem.W.Frag} {σ : L2.St} {H H' : Hp} {te tl : TE} {t : TT} {ta : TA}
/-- what has been made behind i turns -/
def acc {α : Type} (its : List α) (f : α → Bool) (g : α → V) (i : Nat) : List V := ((its.take i).filter f).map g
theorem acc_next {α : Type} {its : List α} {f : α → Bool} {g : α → V} {i : Nat} {x : α} (h : its[i]? = some x) : acc its f g (i + 1) = acc its f g i ++ if f x = true then [g x] else [] := by
  unfold acc
  rw [List.take_add_one, h]
  simp only [Option.toList, List.filter_append, List.map_append]
  congr 1
  by_cases hf : f x = true
  · simp [hf]
  · simp [hf]
theorem acc_all {α : Type} {its : List α} {f : α → Bool} {g : α → V} : acc its f g its.length = (its.filter f).map g := by
  unfold acc
  rw [List.take_length]
theorem acc_len {α : Type} (its : List α) (f : α → Bool) (g : α → V) (i : Nat) : (acc its f g i).length ≤ i := by
  unfold acc
  rw [List.length_map]
  refine Nat.le_trans (List.length_filter_le _ _) ?_
  rw [List.length_take]
  exact Nat.min_le_left _ _
def Cv {α : Type} (H : Hp) (its : List α) (f : α → Bool) (g : α → V) (Dl : Addr) (i : Nat) (H' : Hp) : Prop := H Dl = none ∧ Ex H H' ∧ H' Dl = some (.lst (acc its f g i))
theorem cv_turn {α : Type} {its : List α} {H H' H'' : Hp} {f : α → Bool} {g : α → V} {Dl : Addr} {i : Nat} {x : α} {σ2 : L2.St} (p : Cv H its f g Dl i H') (hx : its[i]? = some x) (hi : its.length ≤ 50000) (he2 : Ex H' H'') (ht : EvT t σ2 H (f x)) (he : f x = true → Er K te σ2 H (.v (g x))) :
    t σ2 H'' fun b H3 => if b = true then te σ2 H3 fun y H4 => ∃ acc, H4 Dl = some (.lst acc) ∧ acc.length < sizeLine ∧ Cv H its f g Dl (i + 1) (upd H4 Dl (.lst (acc ++ [y]))) else Cv H its f g Dl (i + 1) H3 := by
  obtain ⟨p1, p2, p3⟩ := p
  have hlt := (List.getElem?_eq_some_iff.mp hx).1
  refine ht H'' (p2.trans he2) _ fun H3 e3 => ?_
  have p4 := e3 Dl _ (he2 Dl _ p3)
  cases hf : f x with
  | true =>
    show te σ2 H3 fun y H4 => ∃ a, H4 Dl = some (.lst a) ∧ a.length < sizeLine ∧ Cv H its f g Dl (i + 1) (upd H4 Dl (.lst (a ++ [y])))
    refine he hf H3 ((p2.trans he2).trans e3) _ fun y H4 e4 z => ?_
    have ez : y = g x := z
    subst ez
    refine ⟨acc its f g i, e4 Dl _ p4, sz_lt (by have := acc_len its f g i; omega), p1, Ex.mut (((p2.trans he2).trans e3).trans e4) p1, ?_⟩
    rw [acc_next hx, if_pos hf]
    exact upd_same
  | false =>
    show Cv H its f g Dl (i + 1) H3
    refine ⟨p1, (p2.trans he2).trans e3, ?_⟩
    rw [acc_next hx, if_neg (by rw [hf]; exact Bool.false_ne_true), List.append_nil]
    exact p4
/-- [e for x in range(n) if t] -/
theorem er_lcR {n j : Nat} {vs : List Nat} (f : Nat → Bool) (g : Nat → V) (h : Era K ta σ H [.v (.int (n : Int))]) (hn : n ≤ 40000) (hw : ∀ x, wipe ((wipe σ vs).set j (some x)) vs = wipe σ vs)
    (ht : ∀ i H1, Ex H H1 → i < n → EvT t ((wipe σ vs).set j (some (.int (i : Int)))) H1 (f i)) (he : ∀ i H1, Ex H H1 → i < n → f i = true → Er K te ((wipe σ vs).set j (some (.int (i : Int)))) H1 (.v (g i))) :
    Er K (tLc (iRng1 ta) (gName j) t te vs) σ H (.n (((List.range n).filter f).map g)) := fun H0 e Q q => h H0 e _ fun ws H1 e1 z => by
  rcases z with _ | ⟨rfl, _ | _⟩
  refine ⟨(n : Int), rfl, by omega, by omega, fun Dl hD => ?_⟩
  rw [Int.toNat_natCast]
  refine lc_range (lo := 0) (n := n) (Cv H1 (List.range n) f g Dl) ⟨hD, Ex.new hD, upd_same⟩ (fun i H' hi p => ?_) fun H' p => ?_
  · have e0 : (0 : Int) + (i : Int) = (i : Int) := Int.zero_add _
    show wipe ((wipe σ vs).set j (some (.int ((0 : Int) + (i : Int))))) vs = wipe σ vs ∧ t ((wipe σ vs).set j (some (.int ((0 : Int) + (i : Int))))) H' fun b H3 => if b = true then te ((wipe σ vs).set j (some (.int ((0 : Int) + (i : Int))))) H3 fun y H4 => ∃ acc, H4 Dl = some (.lst acc) ∧ acc.length < sizeLine ∧ Cv H1 (List.range n) f g Dl (i + 1) (upd H4 Dl (.lst (acc ++ [y]))) else Cv H1 (List.range n) f g Dl (i + 1) H3
    rw [e0]
    exact ⟨hw _, cv_turn p (x := i) (by rw [List.getElem?_range hi]) (by rw [List.length_range]; omega) (Ex.refl _) (ht i H1 (e.trans e1) hi) (fun hf => he i H1 (e.trans e1) hi hf)⟩
  · obtain ⟨p1, p2, p3⟩ := p
    refine q _ H' (e1.trans p2) ⟨Dl, rfl, ?_⟩
    rw [p3]
    have := acc_all (its := List.range n) (f := f) (g := g)
    rw [List.length_range] at this
    rw [this]
/-- .. over a list -/
theorem er_lcL {α : Type} {its : List α} {inj : α → V} {j : Nat} {vs : List Nat} (f : α → Bool) (g : α → V) (h : Er K tl σ H (.l (its.map inj))) (hz : its.length ≤ 40000) (hw : ∀ x, wipe ((wipe σ vs).set j (some x)) vs = wipe σ vs)
    (ht : ∀ (i : Nat) x H1, Ex H H1 → its[i]? = some x → EvT t ((wipe σ vs).set j (some (inj x))) H1 (f x)) (he : ∀ (i : Nat) x H1, Ex H H1 → its[i]? = some x → f x = true → Er K te ((wipe σ vs).set j (some (inj x))) H1 (.v (g x))) :
    Er K (tLc (iList K tl) (gName j) t te vs) σ H (.n ((its.filter f).map g)) := fun H0 e Q q => h H0 e _ fun w H1 e1 ⟨a, ea, ha⟩ => by
  subst ea
  refine ⟨a, rfl, ⟨_, ha⟩, fun Dl hD => ?_⟩
  refine lc_list (xs := its.map inj) (Cv H1 its f g Dl) ⟨hD, Ex.new hD, upd_same⟩ (fun i H' _ p => ex_l p.2.1 ha) (fun i y H' hy p => ?_) fun H' p => ?_
  · rw [List.getElem?_map] at hy
    cases hx : its[i]? with
    | none => rw [hx] at hy; cases hy
    | some x =>
      rw [hx] at hy
      have ey : inj x = y := Option.some.inj hy
      subst ey
      exact ⟨hw _, cv_turn p hx (by omega) (Ex.refl _) (ht i x H1 (e.trans e1) hx) (fun hf => he i x H1 (e.trans e1) hx hf)⟩
  · obtain ⟨p1, p2, p3⟩ := p
    refine q _ H' (e1.trans p2) ⟨Dl, rfl, ?_⟩
    rw [p3, List.length_map, acc_all]

theorem lc_P {ps : List (V × V)} {g : TG} {tt : TT} {te : TE} {vs : List Nat} {σ : L2.St} {H1 : Hp} {D : Addr} {Qd : Hp → Prop} (Pv : Nat → Hp → Prop) (h0 : Pv 0 (upd H1 D (.lst [])))
    (hs : ∀ (i : Nat) x y (T : Addr) H, ps[i]? = some (x, y) → Pv i H → H T = none → g (.ref T) (wipe σ vs) (upd H T (.tup [x, y])) fun σ2 H2 => wipe σ2 vs = wipe σ vs ∧ tt σ2 H2 fun b H3 =>
      if b = true then te σ2 H3 fun y H4 => ∃ acc, H4 D = some (.lst acc) ∧ acc.length < sizeLine ∧ Pv (i + 1) (upd H4 D (.lst (acc ++ [y]))) else Pv (i + 1) H3) (hd : ∀ H, Pv ps.length H → Qd H) :
    ∃ W : Nat → Nat → Hp → Prop, (∃ m, W 0 m (upd H1 D (.lst []))) ∧ ∀ i m H, W i m H →
      ((ItP ps).stop i H ∧ Qd H) ∨ ((ItP ps).go i H ∧ ∃ Nx : Hp → Prop, (∀ H', Nx H' → ∃ m', m' < m ∧ W (i + 1) m' H') ∧ ∀ x H', (ItP ps).yld i H x H' → g x (wipe σ vs) H' fun σ2 H2 => wipe σ2 vs = wipe σ vs ∧ tt σ2 H2 fun b H3 =>
        if b = true then te σ2 H3 fun y H4 => ∃ acc, H4 D = some (.lst acc) ∧ acc.length < sizeLine ∧ Nx (upd H4 D (.lst (acc ++ [y]))) else Nx H3) := by
  refine ⟨fun i m H => m = ps.length - i ∧ i ≤ ps.length ∧ Pv i H, ⟨ps.length, by simp, Nat.zero_le _, h0⟩, ?_⟩
  rintro i m H ⟨rfl, hi, p⟩
  by_cases hlt : i < ps.length
  · refine .inr ⟨hlt, Pv (i + 1), fun H' p' => ⟨ps.length - (i + 1), by omega, rfl, hlt, p'⟩, fun v H' y => ?_⟩
    obtain ⟨T, x, y, rfl, hT, rfl, hxy⟩ := y
    exact hs i x y T H hxy p hT
  · have e : i = ps.length := by omega
    subst e
    exact .inl ⟨rfl, hd H p⟩
theorem lc_S {z : Str} {g : TG} {tt : TT} {te : TE} {vs : List Nat} {σ : L2.St} {H1 : Hp} {D : Addr} {Qd : Hp → Prop} (Pv : Nat → Hp → Prop) (h0 : Pv 0 (upd H1 D (.lst [])))
    (hs : ∀ (i : Nat) c H, z.cps.toList[i]? = some c → Pv i H → g (sgn c) (wipe σ vs) H fun σ2 H2 => wipe σ2 vs = wipe σ vs ∧ tt σ2 H2 fun b H3 =>
      if b = true then te σ2 H3 fun y H4 => ∃ acc, H4 D = some (.lst acc) ∧ acc.length < sizeLine ∧ Pv (i + 1) (upd H4 D (.lst (acc ++ [y]))) else Pv (i + 1) H3) (hd : ∀ H, Pv z.cps.size H → Qd H) :
    ∃ W : Nat → Nat → Hp → Prop, (∃ m, W 0 m (upd H1 D (.lst []))) ∧ ∀ i m H, W i m H →
      ((Its z).stop i H ∧ Qd H) ∨ ((Its z).go i H ∧ ∃ Nx : Hp → Prop, (∀ H', Nx H' → ∃ m', m' < m ∧ W (i + 1) m' H') ∧ ∀ x H', (Its z).yld i H x H' → g x (wipe σ vs) H' fun σ2 H2 => wipe σ2 vs = wipe σ vs ∧ tt σ2 H2 fun b H3 =>
        if b = true then te σ2 H3 fun y H4 => ∃ acc, H4 D = some (.lst acc) ∧ acc.length < sizeLine ∧ Nx (upd H4 D (.lst (acc ++ [y]))) else Nx H3) := by
  refine ⟨fun i m H => m = z.cps.size - i ∧ i ≤ z.cps.size ∧ Pv i H, ⟨z.cps.size, by simp, Nat.zero_le _, h0⟩, ?_⟩
  rintro i m H ⟨rfl, hi, p⟩
  by_cases hlt : i < z.cps.size
  · refine .inr ⟨hlt, Pv (i + 1), fun H' p' => ⟨z.cps.size - (i + 1), by omega, rfl, hlt, p'⟩, fun v H' y => ?_⟩
    obtain ⟨rfl, c, hc, rfl⟩ := y
    exact hs i c _ (by simpa using hc) p
  · have e : i = z.cps.size := by omega
    subst e
    exact .inl ⟨Nat.le_refl _, hd H p⟩
/-- [e for c in text if t] -/
theorem er_lcS {z : Str} {j : Nat} {vs : List Nat} (f : Nat → Bool) (g : Nat → V) (h : Er K tl σ H (.v (.str z))) (hz : z.length ≤ 40000) (hw : ∀ x, wipe ((wipe σ vs).set j (some x)) vs = wipe σ vs)
    (ht : ∀ (i : Nat) c H1, Ex H H1 → z.cps.toList[i]? = some c → EvT t ((wipe σ vs).set j (some (sgn c))) H1 (f c)) (he : ∀ (i : Nat) c H1, Ex H H1 → z.cps.toList[i]? = some c → f c = true → Er K te ((wipe σ vs).set j (some (sgn c))) H1 (.v (g c))) :
    Er K (tLc (iStr tl) (gName j) t te vs) σ H (.n ((z.cps.toList.filter f).map g)) := fun H0 e Q q => h H0 e _ fun w H1 e1 ew => by
  refine ⟨z, ew, fun Dl hD => ?_⟩
  refine lc_S (z := z) (Cv H1 z.cps.toList f g Dl) ⟨hD, Ex.new hD, upd_same⟩ (fun i c H' hc p => ?_) fun H' p => ?_
  · exact ⟨hw _, cv_turn p hc (by show z.cps.toList.length ≤ 50000; have : z.cps.toList.length = z.length := by simp [Str.length]
                                  omega) (Ex.refl _) (ht i c H1 (e.trans e1) hc) (fun hf => he i c H1 (e.trans e1) hc hf)⟩
  · obtain ⟨p1, p2, p3⟩ := p
    refine q _ H' (e1.trans p2) ⟨Dl, rfl, ?_⟩
    rw [p3, ← acc_all]
    simp
/-- [e for a, b in zip(one, two) if t], the names in slots j1, j2 -/
theorem er_lcZ {one two : Str} {j1 j2 : Nat} {vs : List Nat} (f : Nat × Nat → Bool) (g : Nat × Nat → V) (h : Era K ta σ H [.v (.str one), .v (.str two)]) (hz : one.length ≤ 40000) (hw : ∀ x y, wipe (((wipe σ vs).set j1 (some x)).set j2 (some y)) vs = wipe σ vs)
    (ht : ∀ (i : Nat) c1 c2 H1, Ex H H1 → one.cps[i]? = some c1 → two.cps[i]? = some c2 → EvT t (((wipe σ vs).set j1 (some (sgn c1))).set j2 (some (sgn c2))) H1 (f (c1, c2)))
    (he : ∀ (i : Nat) c1 c2 H1, Ex H H1 → one.cps[i]? = some c1 → two.cps[i]? = some c2 → f (c1, c2) = true → Er K te (((wipe σ vs).set j1 (some (sgn c1))).set j2 (some (sgn c2))) H1 (.v (g (c1, c2)))) :
    Er K (tLc (iZipS ta) (gTup K 2 (gCons (gName j1) (gCons (gName j2) gNil))) t te vs) σ H (.n (((one.cps.toList.zip two.cps.toList).filter f).map g)) := fun H0 e Q q => h H0 e _ fun ws H1 e1 z => by
  rcases z with _ | ⟨rfl, _ | ⟨rfl, _ | _⟩⟩
  refine ⟨one, two, rfl, fun Dl hD => ?_⟩
  refine lc_P (ps := zipS one two) (Cv H1 (one.cps.toList.zip two.cps.toList) f g Dl) ⟨hD, Ex.new hD, upd_same⟩ (fun i x y T H' hxy p hT => ?_) fun H' p => ?_
  · obtain ⟨c1, c2, h1, h2, e1', e2'⟩ := zipS_at hxy
    subst e1'
    subst e2'
    have hp : (one.cps.toList.zip two.cps.toList)[i]? = some (c1, c2) := List.getElem?_zip_eq_some (z := (c1, c2)) |>.mpr ⟨by simpa using h1, by simpa using h2⟩
    refine ⟨T, [_, _], rfl, st_of upd_same, rfl, _, [_], rfl, _, [], rfl, rfl, hw _ _, cv_turn p hp ?_ (Ex.new hT) (ht i c1 c2 H1 (e.trans e1) h1 h2) (fun hf => he i c1 c2 H1 (e.trans e1) h1 h2 hf)⟩
    rw [List.length_zip]
    have : one.cps.toList.length = one.length := by simp [Str.length]
    omega
  · obtain ⟨p1, p2, p3⟩ := p
    refine q _ H' (e1.trans p2) ⟨Dl, rfl, ?_⟩
    rw [p3, ← acc_all, zipS_len]
    simp
theorem enumS_at {x : Str} {i : Nat} {a b : V} (h : (enumS x)[i]? = some (a, b)) : ∃ c, x.cps.toList[i]? = some c ∧ a = .int (i : Int) ∧ b = sgn c := by
  have hl : i < (enumS x).length := (List.getElem?_eq_some_iff.mp h).1
  rw [enumS_len] at hl
  have e := enumS_get (x := x) (i := i) (c := x.cps[i]) (by simp [hl])
  rw [h] at e
  have e2 := Option.some.inj e
  injection e2 with e3 e4
  exact ⟨x.cps[i], by simp [hl], e3, e4⟩
/-- [e for k, c in enumerate(text) if t], the names in slots j1, j2 -/
theorem er_lcE {z : Str} {j1 j2 : Nat} {vs : List Nat} (f : Nat × Nat → Bool) (g : Nat × Nat → V) (h : Era K ta σ H [.v (.str z)]) (hz : z.length ≤ 40000) (hw : ∀ x y, wipe (((wipe σ vs).set j1 (some x)).set j2 (some y)) vs = wipe σ vs)
    (ht : ∀ (i : Nat) c H1, Ex H H1 → z.cps.toList[i]? = some c → EvT t (((wipe σ vs).set j1 (some (.int (i : Int)))).set j2 (some (sgn c))) H1 (f (c, i)))
    (he : ∀ (i : Nat) c H1, Ex H H1 → z.cps.toList[i]? = some c → f (c, i) = true → Er K te (((wipe σ vs).set j1 (some (.int (i : Int)))).set j2 (some (sgn c))) H1 (.v (g (c, i)))) :
    Er K (tLc (iEnumS ta) (gTup K 2 (gCons (gName j1) (gCons (gName j2) gNil))) t te vs) σ H (.n ((z.cps.toList.zipIdx.filter f).map g)) := fun H0 e Q q => h H0 e _ fun ws H1 e1 zz => by
  rcases zz with _ | ⟨rfl, _ | _⟩
  refine ⟨z, rfl, fun Dl hD => ?_⟩
  refine lc_P (ps := enumS z) (Cv H1 z.cps.toList.zipIdx f g Dl) ⟨hD, Ex.new hD, upd_same⟩ (fun i x y T H' hxy p hT => ?_) fun H' p => ?_
  · obtain ⟨c, h1, e1', e2'⟩ := enumS_at hxy
    subst e1'
    subst e2'
    have hp : z.cps.toList.zipIdx[i]? = some (c, i) := by rw [List.getElem?_zipIdx, h1]; simp
    refine ⟨T, [_, _], rfl, st_of upd_same, rfl, _, [_], rfl, _, [], rfl, rfl, hw _ _, cv_turn p hp ?_ (Ex.new hT) (ht i c H1 (e.trans e1) h1) (fun hf => he i c H1 (e.trans e1) h1 hf)⟩
    rw [List.length_zipIdx]
    have : z.cps.toList.length = z.length := by simp [Str.length]
    omega
  · obtain ⟨p1, p2, p3⟩ := p
    refine q _ H' (e1.trans p2) ⟨Dl, rfl, ?_⟩
    rw [p3, ← acc_all, enumS_len]
    simp
end
end Mi

set_option maxHeartbeats 2000000
namespace Mi
open PySem PySem.Spec PyProof.Rows L2 Evl

/-! ### a text by its codes -/
def S (l : List Nat) : Str := ⟨l.toArray⟩
theorem S_list (l : List Nat) : (S l).cps.toList = l := rfl
theorem S_len (l : List Nat) : (S l).length = l.length := by simp [S, Str.length]
theorem S_size (l : List Nat) : (S l).cps.size = l.length := by simp [S]
theorem S_of (x : Str) : S x.cps.toList = x := str_ext rfl
theorem S_inj {a b : List Nat} (h : S a = S b) : a = b := by
  exact congrArg (fun x : Str => x.cps.toList) h
theorem S_eq {a b : List Nat} : (V.str (S a) = V.str (S b)) ↔ a = b := ⟨fun h => S_inj (V.str.inj h), fun h => by rw [h]⟩
theorem S_app (a b : List Nat) : S a ++ S b = S (a ++ b) := str_ext (by
  show ((S a).cps ++ (S b).cps).toList = a ++ b
  simp [S])
theorem S_one (c : Nat) : (⟨#[c]⟩ : Str) = S [c] := rfl
theorem S_reps (a : List Nat) (n : Nat) : reps (S a) n = S (List.replicate n a).flatten := rfl
theorem S_at {l : List Nat} {i : Nat} : (S l).cps[i]? = l[i]? := by simp [S]
theorem join_ones (cs : List Nat) : Txt.join (S []) (cs.map fun c => S [c]) = S cs := by
  show Builtin.Str.glued (S []) (cs.map fun c => S [c]) = S cs
  rw [StrLaws.glued_eq_join]
  induction cs with
  | nil => rfl
  | cons c r ih =>
    cases r with
    | nil => rfl
    | cons c2 r2 =>
      show S [c] ++ S [] ++ Str.join (S []) ((c2 :: r2).map fun c => S [c]) = S (c :: c2 :: r2)
      rw [ih, S_app, S_app]
      simp

section
variable {K : PySem.W.Frag} {σ : L2.St} {H H' : Hp} {te ta tb tc : TE} {t u : TT} {tr : TA} {d d1 d2 d' : Dd} {x y : V} {r : R2}
def Dd.val : Dd → V
  | .v x => x
  | _ => .non
theorem er_lst' {ds : List Dd} (h : Era K tr σ H ds) (hd : ds = (ds.map Dd.val).map Dd.v) (hl : ds.length ≤ 100000) : Er K (tLst tr) σ H (.n (ds.map Dd.val)) := by
  rw [hd] at h
  exact er_lst h (by rw [List.length_map]; exact hl)
theorem er_tup' {ds : List Dd} (h : Era K tr σ H ds) (hd : ds = (ds.map Dd.val).map Dd.v) (hl : ds.length ≤ 100000) : Er K (tTup tr) σ H (.u (ds.map Dd.val)) := by
  rw [hd] at h
  exact er_tup h (by rw [List.length_map]; exact hl)
theorem ro_mulL {i j : Int} (h1 : -18446744073709551616 < i) (h2 : i < 18446744073709551616) : Ro K (rI CMul fun i j => .int (i * j)) (.v (.int i)) (.v (.int j)) (.v (.int (i * j))) := ro_I (.inl ⟨h1, h2⟩)
theorem ro_mulR {i j : Int} (h1 : -18446744073709551616 < j) (h2 : j < 18446744073709551616) : Ro K (rI CMul fun i j => .int (i * j)) (.v (.int i)) (.v (.int j)) (.v (.int (i * j))) := ro_I (.inr ⟨h1, h2⟩)
theorem ro_div {i j : Int} (h1 : 0 < j) (h2 : j < 1073741824) : Ro K (rI CDiv fun i j => .int (i / j)) (.v (.int i)) (.v (.int j)) (.v (.int (i / j))) := ro_I ⟨h1, h2⟩
theorem ro_mod {i j : Int} (h1 : 0 < j) : Ro K (rI (fun _ j => 0 < j) fun i j => .int (i % j)) (.v (.int i)) (.v (.int j)) (.v (.int (i % j))) := ro_I h1
theorem ro_ixI {ns : List Int} {i : Int} (h0 : 0 ≤ i) (h1 : i < ns.length) : Ro K (rIxL K) (.l (vis ns)) (.v (.int i)) (.v (.int (ns.getD i.toNat 0))) := by
  refine ro_ixL h0 ?_
  have h2 : i.toNat < ns.length := by omega
  rw [List.getElem?_map, List.getD_eq_getElem?_getD, List.getElem?_eq_getElem h2]
  rfl
theorem ro_ixIN {ns : List Int} {i : Int} (h0 : 0 ≤ i) (h1 : i < ns.length) : Ro K (rIxL K) (.n (vis ns)) (.v (.int i)) (.v (.int (ns.getD i.toNat 0))) := fun v w H1 a b => ro_ixI h0 h1 v w H1 a.n2l b
theorem ro_ixT2 {ys : List Str} {i : Int} (h0 : 0 ≤ i) (h1 : i < ys.length) : Ro K (rIxL K) (.l (vss ys)) (.v (.int i)) (.v (.str (ys.getD i.toNat Str.empty))) := by
  refine ro_ixL h0 ?_
  have h2 : i.toNat < ys.length := by omega
  rw [List.getElem?_map, List.getD_eq_getElem?_getD, List.getElem?_eq_getElem h2]
  rfl
theorem ro_ixG {xs : List V} {i : Int} (h0 : 0 ≤ i) (h1 : i < xs.length) : Ro K (rIxL K) (.n xs) (.v (.int i)) (.v (xs.getD i.toNat .non)) := by
  refine ro_ixN h0 ?_
  have h2 : i.toNat < xs.length := by omega
  rw [List.getD_eq_getElem?_getD, List.getElem?_eq_getElem h2]
  rfl
theorem ro_ixC {l : List Nat} {i : Int} (h0 : 0 ≤ i) (h1 : i < l.length) (hz : l.length ≤ 100000) : Ro K rIxS (.v (.str (S l))) (.v (.int i)) (.v (.str (S [l.getD i.toNat 0]))) := by
  refine ro_ixS (by rw [S_len]; exact hz) h0 ?_
  have h2 : i.toNat < l.length := by omega
  rw [S_list, List.getD_eq_getElem?_getD, List.getElem?_eq_getElem h2]
  rfl
theorem ro_addC {a b : List Nat} (h : a.length + b.length ≤ 100000) : Ro K rAddS2 (.v (.str (S a))) (.v (.str (S b))) (.v (.str (S (a ++ b)))) := by
  rw [← S_app]
  exact ro_addS (by rw [S_len, S_len]; exact h)
theorem ro_mulC {a : List Nat} {n : Nat} (hn : n ≤ 1000) (ha : a.length ≤ 1000) : Ro K rMulS (.v (.str (S a))) (.v (.int (n : Int))) (.v (.str (S (List.replicate n a).flatten))) := by
  rw [← S_reps]
  exact ro_mulS hn (by rw [S_len]; exact ha)
theorem ro_eqC {a b : List Nat} : Ro K rEq (.v (.str (S a))) (.v (.str (S b))) (.v (.bl (decide (a = b)))) := by
  have e : decide (V.str (S a) = V.str (S b)) = decide (a = b) := by rw [decide_eq_decide]; exact S_eq
  rw [← e]
  exact ro_eq rfl
theorem ro_neC {a b : List Nat} : Ro K rNe (.v (.str (S a))) (.v (.str (S b))) (.v (.bl (!decide (a = b)))) := by
  have e : decide (V.str (S a) = V.str (S b)) = decide (a = b) := by rw [decide_eq_decide]; exact S_eq
  rw [← e]
  exact ro_ne rfl
theorem ro_eqI {a b : Int} : Ro K rEq (.v (.int a)) (.v (.int b)) (.v (.bl (decide (a = b)))) := by
  have e : decide (V.int a = V.int b) = decide (a = b) := by rw [decide_eq_decide]; exact ⟨V.int.inj, fun h => by rw [h]⟩
  rw [← e]
  exact ro_eq rfl
theorem ro_neI {a b : Int} : Ro K rNe (.v (.int a)) (.v (.int b)) (.v (.bl (!decide (a = b)))) := by
  have e : decide (V.int a = V.int b) = decide (a = b) := by rw [decide_eq_decide]; exact ⟨V.int.inj, fun h => by rw [h]⟩
  rw [← e]
  exact ro_ne rfl
theorem ro_eqB {a b : Bool} : Ro K rEq (.v (.bl a)) (.v (.bl b)) (.v (.bl (decide (a = b)))) := by
  have e : decide (V.bl a = V.bl b) = decide (a = b) := by rw [decide_eq_decide]; exact ⟨V.bl.inj, fun h => by rw [h]⟩
  rw [← e]
  exact ro_eq rfl
theorem ro_neB {a b : Bool} : Ro K rNe (.v (.bl a)) (.v (.bl b)) (.v (.bl (!decide (a = b)))) := by
  have e : decide (V.bl a = V.bl b) = decide (a = b) := by rw [decide_eq_decide]; exact ⟨V.bl.inj, fun h => by rw [h]⟩
  rw [← e]
  exact ro_ne rfl
theorem rc_lenC {z : List Nat} (hz : z.length ≤ 100000) : Rc K rLenStr [.v (.str (S z))] (.v (.int (z.length : Int))) := by
  have h := rc_lenS (K := K) (z := S z) (by rw [S_len]; exact hz)
  rw [S_len] at h
  exact h
theorem rc_lenI {ns : List Int} : Rc K (rLenS K) [.l (vis ns)] (.v (.int (ns.length : Int))) := by
  have h := rc_lenL (K := K) (xs := vis ns)
  rw [List.length_map] at h
  exact h
theorem rc_lenT {ns : List Str} : Rc K (rLenS K) [.l (vss ns)] (.v (.int (ns.length : Int))) := by
  have h := rc_lenL (K := K) (xs := vss ns)
  rw [List.length_map] at h
  exact h
theorem rc_lenIN {ns : List Int} : Rc K (rLenS K) [.n (vis ns)] (.v (.int (ns.length : Int))) := by
  have h := rc_lenN (K := K) (xs := vis ns)
  rw [List.length_map] at h
  exact h
theorem rc_lenTN {ns : List Str} : Rc K (rLenS K) [.n (vss ns)] (.v (.int (ns.length : Int))) := by
  have h := rc_lenN (K := K) (xs := vss ns)
  rw [List.length_map] at h
  exact h
/-- ''.join of texts of one sign each -/
theorem rm_joinC {cs : List Nat} (hz : cs.length ≤ 100000) : Rm K "str" (rJoin K) (.v (.str (S []))) [.n (cs.map fun c => V.str (S [c]))] (.v (.str (S cs))) := by
  have h := rm_join (K := K) (a := S []) (ys := cs.map fun c => S [c]) (by
    rw [List.map_map, List.length_map, S_len]
    have e : ((fun x : Str => x.length) ∘ fun c => S [c]) = fun _ => 1 := by funext c; exact S_len [c]
    rw [e, List.map_const']
    simp
    exact hz)
  rw [join_ones] at h
  have e : vss (cs.map fun c => S [c]) = cs.map fun c => V.str (S [c]) := by rw [vss, List.map_map]; rfl
  rw [e] at h
  exact h
end

/-! ### a def of the text -/
structure At (K : PySem.W.Frag) (mg : Str → Option Value) (x : Str) (st : Stmt) (ps : List Str) : Prop where
  ex : ∃ f fd, mg x = some (.ref f) ∧ Fun K x x st f fd ∧ Binds K fd ps [] ∧
    (ps.length = 1 → ∀ (s : Shared) (w1 : Value), BindsTo s fd ⟨[], ps.zip [w1]⟩ (ps.zip [w1])) ∧
    (∀ p q, ps = [p, q] → ∀ (s : Shared) (w1 w2 : Value), BindsTo s fd ⟨[], [q, p].zip [w1, w2]⟩ ([p, q].zip [w2, w1]))
theorem IsAll.len {K : PySem.W.Frag} {H : Hp} : ∀ {ds : List Dd} {vs : List V}, IsAll K H ds vs → ds.length = vs.length
  | _, _, .nil => rfl
  | _, _, .cons _ b => congrArg (· + 1) (IsAll.len b)
theorem At.hasR {P : Program} {w : World} {K : PySem.W.Frag} {mg : Str → Option Value} {base : Heap} {x : Str} {st : Stmt} {N ps : List Str} {k : Nat} {T : Type} {pre : T → Prop} {args : T → List Dd} {ret : T → Dd}
    (h : At K mg x st ps) (Sc : FnScope N ps (defScope st)) (hl : ∀ a, (args a).length = ps.length)
    (hbody : ∀ (f : Addr) (cdv : Value) (A : Around) (outer : List Env) (s : Shared) (H : Hp) (a : T) (vs : List V) (Q : VK) (E : XK), Room k (A.deeper (envOfC x (defScope st) s.heap.objs.size f cdv)) → pre a → IsAll K H (args a) vs →
      (∀ v H', Ex H H' → Is K H' (ret a) v → Q v H') →
      ∃ t, PSs (cxOf CX0 P w K mg base N x (defScope st) f cdv A outer s H E).nox (defBody st) t ∧ t { nx := fun _ H' => Q .non H', rt := Q } (start N vs) H) :
    Has P w K mg base (k + 1) x ps (spR K pre args ret) := by
  obtain ⟨f, fd, hm, F, b0, b1, b2⟩ := h.ex
  refine ⟨f, fd, hm, F.kp, F.ok Sc (fun vs H Q E hsp => ?_) (fun cdv A outer s H vs Q E hr hsp => ?_), b0, b1, b2⟩
  · obtain ⟨a, _, hv, _⟩ := hsp
    rw [← hv.len, hl]
  · obtain ⟨a, hp, hv, hk⟩ := hsp
    exact hbody f cdv A outer s H a vs Q E hr hp hv hk
theorem Has.mono {P : Program} {w : World} {K : PySem.W.Frag} {mg : Str → Option Value} {base : Heap} {j k : Nat} {x : Str} {ps : List Str} {sp : Sp} (h : Has P w K mg base j x ps sp) (hj : j ≤ k) : Has P w K mg base k x ps sp := by
  obtain ⟨f, fd, a, b, c, d⟩ := h.ex
  exact ⟨f, fd, a, b, c.mono hj, d⟩

/-! ### the same, over texts by their codes -/
section
variable {K : PySem.W.Frag} {σ : L2.St} {H H' : Hp} {te tl : TE} {t : TT} {ta : TA} {D : Ends} {tu tz : TS}
theorem c_forZ {j1 j2 : Nat} {one two : List Nat} (h : Era K ta σ H [.s (S one), .s (S two)]) (Pv : Nat → L2.St → Hp → Prop) (h0 : ∀ H1, Ex H H1 → Pv 0 σ H1)
    (hs : ∀ (i : Nat) c1 c2 σ' H' H2, one[i]? = some c1 → two[i]? = some c2 → Pv i σ' H' → Ex H' H2 → tu { D with nx := Pv (i + 1), ct := Pv (i + 1), bk := tz D } ((σ'.set j1 (some (.str (S [c1])))).set j2 (some (.str (S [c2])))) H2)
    (hd : ∀ σ' H', Pv (min one.length two.length) σ' H' → tz D σ' H') : tSeq (tFor (iZipS ta) (gTup K 2 (gCons (gName j1) (gCons (gName j2) gNil))) tu) tz D σ H :=
  b_forZ h Pv h0 (fun i c1 c2 σ' H' H2 h1 h2 => hs i c1 c2 σ' H' H2 (by rw [← S_at]; exact h1) (by rw [← S_at]; exact h2)) (by rw [S_len, S_len]; exact hd)
theorem c_lcZ {one two : List Nat} {j1 j2 : Nat} {vs : List Nat} (f : Nat × Nat → Bool) (g : Nat × Nat → V) (h : Era K ta σ H [.s (S one), .s (S two)]) (hz : one.length ≤ 40000) (hw : ∀ x y, wipe (((wipe σ vs).set j1 (some x)).set j2 (some y)) vs = wipe σ vs)
    (ht : ∀ (i : Nat) c1 c2 H1, Ex H H1 → one[i]? = some c1 → two[i]? = some c2 → EvT t (((wipe σ vs).set j1 (some (.str (S [c1])))).set j2 (some (.str (S [c2])))) H1 (f (c1, c2)))
    (he : ∀ (i : Nat) c1 c2 H1, Ex H H1 → one[i]? = some c1 → two[i]? = some c2 → f (c1, c2) = true → Er K te (((wipe σ vs).set j1 (some (.str (S [c1])))).set j2 (some (.str (S [c2])))) H1 (.v (g (c1, c2)))) :
    Er K (tLc (iZipS ta) (gTup K 2 (gCons (gName j1) (gCons (gName j2) gNil))) t te vs) σ H (.n (((one.zip two).filter f).map g)) :=
  er_lcZ (one := S one) (two := S two) f g h (by rw [S_len]; exact hz) hw (fun i c1 c2 H1 e h1 h2 => ht i c1 c2 H1 e (by rw [← S_at]; exact h1) (by rw [← S_at]; exact h2)) (fun i c1 c2 H1 e h1 h2 => he i c1 c2 H1 e (by rw [← S_at]; exact h1) (by rw [← S_at]; exact h2))
theorem c_lcE {z : List Nat} {j1 j2 : Nat} {vs : List Nat} (f : Nat × Nat → Bool) (g : Nat × Nat → V) (h : Era K ta σ H [.s (S z)]) (hz : z.length ≤ 40000) (hw : ∀ x y, wipe (((wipe σ vs).set j1 (some x)).set j2 (some y)) vs = wipe σ vs)
    (ht : ∀ (i : Nat) c H1, Ex H H1 → z[i]? = some c → EvT t (((wipe σ vs).set j1 (some (.int (i : Int)))).set j2 (some (.str (S [c])))) H1 (f (c, i)))
    (he : ∀ (i : Nat) c H1, Ex H H1 → z[i]? = some c → f (c, i) = true → Er K te (((wipe σ vs).set j1 (some (.int (i : Int)))).set j2 (some (.str (S [c])))) H1 (.v (g (c, i)))) :
    Er K (tLc (iEnumS ta) (gTup K 2 (gCons (gName j1) (gCons (gName j2) gNil))) t te vs) σ H (.n ((z.zipIdx.filter f).map g)) :=
  er_lcE (z := S z) f g h (by rw [S_len]; exact hz) hw ht he
theorem c_lcS {z : List Nat} {j : Nat} {vs : List Nat} (f : Nat → Bool) (g : Nat → V) (h : Er K tl σ H (.s (S z))) (hz : z.length ≤ 40000) (hw : ∀ x, wipe ((wipe σ vs).set j (some x)) vs = wipe σ vs)
    (ht : ∀ (i : Nat) c H1, Ex H H1 → z[i]? = some c → EvT t ((wipe σ vs).set j (some (.str (S [c])))) H1 (f c)) (he : ∀ (i : Nat) c H1, Ex H H1 → z[i]? = some c → f c = true → Er K te ((wipe σ vs).set j (some (.str (S [c])))) H1 (.v (g c))) :
    Er K (tLc (iStr tl) (gName j) t te vs) σ H (.n ((z.filter f).map g)) :=
  er_lcS (z := S z) f g h (by rw [S_len]; exact hz) hw ht he
/-- an if without else whose branch always leaves, behind it the rest -/
theorem q_leave {b : Bool} (h : EvT t σ H b) (h1 : b = true → ∀ H1, Ex H H1 → tu { D with nx := tz D } σ H1) (h2 : b = false → ∀ H1, Ex H H1 → tz D σ H1) : tSeq (tIfS t tu tNext) tz D σ H := q_when h h1 h2
end

/-! ### tests that carry K -/
def Et (_K : PySem.W.Frag) (t : TT) (σ : L2.St) (H : Hp) (b : Bool) : Prop := EvT t σ H b
section
variable {K : PySem.W.Frag} {σ : L2.St} {H H' : Hp} {te ta tb : TE} {t u : TT} {a b : Bool} {d : Dd} {D : Ends} {tu tw tz : TS} {x y : V}
theorem et1 (h : Er K te σ H (.b b)) : Et K (tTest te) σ H b := et_t h
theorem et2 (h : Er K te σ H (.b b)) : Et K (tB te) σ H b := et_v h
theorem et_an (h1 : Et K t σ H a) (h2 : a = true → Et K u σ H b) : Et K (tAnd t u) σ H (a && b) := et_and h1 h2
theorem et_orr (h1 : Et K t σ H a) (h2 : a = false → Et K u σ H b) : Et K (tOr t u) σ H (a || b) := et_or h1 h2
theorem et_nt (h1 : Et K t σ H a) : Et K (tNot t) σ H (!a) := et_not h1
theorem Et.to (h : Et K t σ H a) (e : a = b) : Et K t σ H b := e ▸ h
theorem er_iff (h : Et K t σ H b) (h1 : b = true → Er K ta σ H d) (h2 : b = false → Er K tb σ H d) : Er K (tIf t ta tb) σ H d := er_if h h1 h2
/-- a if t else b, two values of one kind -/
theorem er_ite {xa xb : V} (h : Et K t σ H b) (h1 : b = true → Er K ta σ H (.v xa)) (h2 : b = false → Er K tb σ H (.v xb)) : Er K (tIf t ta tb) σ H (.v (if b = true then xa else xb)) := er_if h (fun hb => by rw [if_pos hb]; exact h1 hb) (fun hb => by rw [if_neg (by rw [hb]; exact Bool.false_ne_true)]; exact h2 hb)
theorem a_when (h : Et K t σ H b) (h1 : b = true → ∀ H1, Ex H H1 → tu { D with nx := tz D } σ H1) (h2 : b = false → ∀ H1, Ex H H1 → tz D σ H1) : tSeq (tIfS t tu tNext) tz D σ H := q_when h h1 h2
theorem a_when1 (h : Et K t σ H b) (h1 : b = true → ∀ H1, Ex H H1 → tu D σ H1) (h2 : b = false → ∀ H1, Ex H H1 → D.nx σ H1) : tIfS t tu tNext D σ H := s_when h h1 h2
theorem a_if (h : Et K t σ H b) (h1 : b = true → ∀ H1, Ex H H1 → tu { D with nx := tz D } σ H1) (h2 : b = false → ∀ H1, Ex H H1 → tw { D with nx := tz D } σ H1) : tSeq (tIfS t tu tw) tz D σ H := q_if h h1 h2
theorem a_if1 (h : Et K t σ H b) (h1 : b = true → ∀ H1, Ex H H1 → tu D σ H1) (h2 : b = false → ∀ H1, Ex H H1 → tw D σ H1) : tIfS t tu tw D σ H := s_if h h1 h2
/-- if c: x = e: told by what x holds behind it -/
theorem a_ifAsg {i : Nat} (h : Et K t σ H b) (h1 : b = true → Er K te σ H (.v x)) (h2 : b = false → σ.set i (some x) = σ) (k : ∀ H1, Ex H H1 → tz D (σ.set i (some x)) H1) : tSeq (tIfS t (tAsg te (gName i)) tNext) tz D σ H :=
  a_when h (fun hb H1 e1 => a_asg1 (D := { D with nx := tz D }) ((h1 hb).mono e1) fun v H2 e2 z => by
    have ez : v = x := z
    subst ez
    exact k H2 (e1.trans e2)) (fun hb H1 e1 => by
    have g := k H1 e1
    rw [h2 hb] at g
    exact g)
end
theorem filt_true {α : Type} (l : List α) : l.filter (fun _ => true) = l := List.filter_eq_self.mpr fun _ _ => rfl
theorem c_lcZ' {K : PySem.W.Frag} {σ : L2.St} {H : Hp} {te : TE} {ta : TA} {one two : List Nat} {j1 j2 : Nat} {vs : List Nat} (g : Nat × Nat → V) (h : Era K ta σ H [.s (S one), .s (S two)]) (hz : one.length ≤ 40000) (hw : ∀ x y, wipe (((wipe σ vs).set j1 (some x)).set j2 (some y)) vs = wipe σ vs)
    (he : ∀ (i : Nat) c1 c2 H1, Ex H H1 → one[i]? = some c1 → two[i]? = some c2 → Er K te (((wipe σ vs).set j1 (some (.str (S [c1])))).set j2 (some (.str (S [c2])))) H1 (.v (g (c1, c2)))) :
    Er K (tLc (iZipS ta) (gTup K 2 (gCons (gName j1) (gCons (gName j2) gNil))) tYes te vs) σ H (.n ((one.zip two).map g)) := by
  have := c_lcZ (K := K) (t := tYes) (te := te) (fun _ => true) g h hz hw (fun i c1 c2 H1 _ _ _ => fun H2 e Q q => q H2 (Ex.refl _)) (fun i c1 c2 H1 e h1 h2 _ => he i c1 c2 H1 e h1 h2)
  rwa [filt_true] at this
theorem c_lcE' {K : PySem.W.Frag} {σ : L2.St} {H : Hp} {te : TE} {ta : TA} {z : List Nat} {j1 j2 : Nat} {vs : List Nat} (g : Nat × Nat → V) (h : Era K ta σ H [.s (S z)]) (hz : z.length ≤ 40000) (hw : ∀ x y, wipe (((wipe σ vs).set j1 (some x)).set j2 (some y)) vs = wipe σ vs)
    (he : ∀ (i : Nat) c H1, Ex H H1 → z[i]? = some c → Er K te (((wipe σ vs).set j1 (some (.int (i : Int)))).set j2 (some (.str (S [c])))) H1 (.v (g (c, i)))) :
    Er K (tLc (iEnumS ta) (gTup K 2 (gCons (gName j1) (gCons (gName j2) gNil))) tYes te vs) σ H (.n (z.zipIdx.map g)) := by
  have := c_lcE (K := K) (t := tYes) (te := te) (fun _ => true) g h hz hw (fun i c H1 _ _ => fun H2 e Q q => q H2 (Ex.refl _)) (fun i c H1 e h1 _ => he i c H1 e h1)
  rwa [filt_true] at this
theorem c_lcS' {K : PySem.W.Frag} {σ : L2.St} {H : Hp} {te tl : TE} {z : List Nat} {j : Nat} {vs : List Nat} (g : Nat → V) (h : Er K tl σ H (.s (S z))) (hz : z.length ≤ 40000) (hw : ∀ x, wipe ((wipe σ vs).set j (some x)) vs = wipe σ vs)
    (he : ∀ (i : Nat) c H1, Ex H H1 → z[i]? = some c → Er K te ((wipe σ vs).set j (some (.str (S [c])))) H1 (.v (g c))) :
    Er K (tLc (iStr tl) (gName j) tYes te vs) σ H (.n (z.map g)) := by
  have := c_lcS (K := K) (t := tYes) (te := te) (fun _ => true) g h hz hw (fun i c H1 _ _ => fun H2 e Q q => q H2 (Ex.refl _)) (fun i c H1 e h1 _ => he i c H1 e h1)
  rwa [filt_true] at this
theorem er_lcR' {K : PySem.W.Frag} {σ : L2.St} {H : Hp} {te : TE} {ta : TA} {n j : Nat} {vs : List Nat} (g : Nat → V) (h : Era K ta σ H [.v (.int (n : Int))]) (hn : n ≤ 40000) (hw : ∀ x, wipe ((wipe σ vs).set j (some x)) vs = wipe σ vs)
    (he : ∀ i H1, Ex H H1 → i < n → Er K te ((wipe σ vs).set j (some (.int (i : Int)))) H1 (.v (g i))) :
    Er K (tLc (iRng1 ta) (gName j) tYes te vs) σ H (.n ((List.range n).map g)) := by
  have := er_lcR (K := K) (t := tYes) (te := te) (fun _ => true) g h hn hw (fun i H1 _ _ => fun H2 e Q q => q H2 (Ex.refl _)) (fun i H1 e h1 _ => he i H1 e h1)
  rwa [filt_true] at this

/-- a written text by its codes -/
theorem pe_strS {X : Cx} {x : Str} {j : Nat} {pos : Pos} (l : List Nat) (h : x = S l) : PE X (.Constant (.str x) j pos) (tC (.str (S l))) := by
  rw [← h]
  exact pe_str
/-- an if-elif chain's join is left to the reader -/
theorem Er.ofv {K : PySem.W.Frag} {te : TE} {σ : L2.St} {H : Hp} {x y : V} (h : Er K te σ H (.v x)) (e : x = y) : Er K te σ H (.v y) := e ▸ h
example : (("-abc" : Str) = S [45, 97, 98, 99]) := by decide +kernel
example : (("-abc" : Str) = S [45, 97, 98, 99]) := by rfl

section
variable {K : PySem.W.Frag} {σ : L2.St} {H H0 H' : Hp} {te ta tb : TE} {t u : TT} {a b : Bool} {d d' : Dd} {D : Ends} {tu tw tz : TS} {x y : V}
theorem a_rete (h : Er K te σ H d) (hd : d = d') (e0 : Ex H0 H) (hk : ∀ v H', Ex H0 H' → Is K H' d' v → D.rt v H') : tRet te D σ H := a_ret h fun v H1 e z => hk v H1 (e0.trans e) (hd ▸ z)
theorem a_setv {i : Nat} (h : Er K te σ H (.v x)) (k : ∀ H1, Ex H H1 → tz D (σ.set i (some x)) H1) : tSeq (tAsg te (gName i)) tz D σ H := a_asg h fun v H1 e z => by
  have ez : v = x := z
  subst ez
  exact k H1 e
theorem a_setv1 {i : Nat} (h : Er K te σ H (.v x)) (k : ∀ H1, Ex H H1 → D.nx (σ.set i (some x)) H1) : tAsg te (gName i) D σ H := a_asg1 h fun v H1 e z => by
  have ez : v = x := z
  subst ez
  exact k H1 e
end
theorem inV_int (i : Int) (cs : List Int) : inV (.int i) (vis cs) = decide (i ∈ cs) := by
  unfold inV vis
  rw [List.any_map, Bool.eq_iff_iff, List.any_eq_true]
  simp only [Function.comp_apply, decide_eq_true_eq]
  constructor
  · rintro ⟨x, hx, h⟩
    have e : x = i := by simpa [eqV] using h
    exact e ▸ hx
  · intro h
    exact ⟨i, h, by simp [eqV]⟩
theorem flat_vis (cs : List Int) : (vis cs).all flatV = true := by
  rw [List.all_eq_true]
  intro x hx
  obtain ⟨n, _, rfl⟩ := List.mem_map.mp hx
  rfl
theorem replC (a : List Nat) (b c : Nat) : Txt.replace (S a) (S [b]) (S [c]) = S (a.map fun x => if x = b then c else x) := str_ext (by
  rw [StrLaws.replace_list (by rw [S_len]; exact Nat.le_refl 1)]
  exact replL_one b c a)
section
variable {K : PySem.W.Frag}
theorem ro_inLi {i : Int} {cs : List Int} : Ro K (rIn K false) (.v (.int i)) (.l (vis cs)) (.b (decide (i ∈ cs))) := by
  have h := ro_inL (K := K) (neg := false) (x := .int i) (xs := vis cs) rfl (flat_vis cs)
  rw [if_neg Bool.false_ne_true, inV_int] at h
  exact h
theorem ro_inNi {i : Int} {cs : List Int} : Ro K (rIn K false) (.v (.int i)) (.n (vis cs)) (.b (decide (i ∈ cs))) := fun v w H1 a b => ro_inLi v w H1 a b.n2l
theorem ro_inUi {i : Int} {cs : List Int} : Ro K (rIn K false) (.v (.int i)) (.u (vis cs)) (.b (decide (i ∈ cs))) := by
  have h := ro_inU (K := K) (neg := false) (x := .int i) (xs := vis cs) rfl (flat_vis cs)
  rw [if_neg Bool.false_ne_true, inV_int] at h
  exact h
end

/-! ### rules that name K (for use within a comprehension) -/
section
variable {X : Cx} {K : PySem.W.Frag}
theorem op_in_k (h : X.K = K := by rfl) : OpR X (compareOp .In) (rIn K false) := h ▸ op_in_seq
theorem op_notIn_k (h : X.K = K := by rfl) : OpR X (compareOp .NotIn) (rIn K true) := h ▸ op_notIn_seq
theorem op_eqD_k (hu : X.A.units + 64 < cLine) (h : X.K = K := by rfl) : OpR X (compareOp .Eq) (rEqD K) := h ▸ op_eqD hu
theorem op_neD_k (hu : X.A.units + 64 < cLine) (h : X.K = K := by rfl) : OpR X (compareOp .NotEq) (rNeD K) := h ▸ op_neD hu
theorem ix_list_k (h : X.K = K := by rfl) : IxR X (rIxL K) := h ▸ ix_list
theorem ix_tup_k (h : X.K = K := by rfl) : IxR X (rIxT K) := h ▸ ix_tup
theorem sl_list_k (h : X.K = K := by rfl) : SlR X (rSlL K) := h ▸ sl_list
theorem cr_len_k (h : X.K = K := by rfl) : CallR X (.builtin "len") (rLenS K) := h ▸ cr_len
theorem cr_list_k (h : X.K = K := by rfl) : CallR X (.type "list") (rListS K) := h ▸ cr_list
theorem cr_tuple_k (h : X.K = K := by rfl) : CallR X (.type "tuple") (rTupS K) := h ▸ cr_tuple
theorem cr_isi_k (h : X.K = K := by rfl) : CallR X (.builtin "isinstance") (rIsi K) := h ▸ cr_isi
theorem mt_join_k (h : X.K = K := by rfl) : MtR X "str.join" (rJoin K) := h ▸ mt_joinN
theorem mt_count_k (h : X.K = K := by rfl) : MtR X "list.count" (rCntS K) := h ▸ mt_scount
theorem pi_list_k {tg l : Expr} {tl : TE} (h : PE X l tl) (hK : X.K = K := by rfl) : PI X tg l (iList K tl) := hK ▸ pi_list h
theorem pi_tup_k {tg l : Expr} {tl : TE} (h : PE X l tl) (hK : X.K = K := by rfl) : PI X tg l (iTup K tl) := hK ▸ pi_tup h
theorem pe_bm_k {o e : Expr} {es : List Expr} {to : TE} {t : TA} {name : Str} {apos cpos : Pos} {T id : String} {r : V → List V → Hp → VK → Prop} (pa : PlainAttrs T) (slot : Slot T name id) (hty : typeOf (.builtin id) = pure (.type "method_descriptor")) (hm : MtR X id r) (ho : PE X o to) (ha : PA X (e :: es) t)
    (hK : X.K = K := by rfl) (hbase : attributeBase o name X.env (eval o X.env) = eval o X.env := by rfl)
    (hfew : ((backTo cpos (starEach (e :: es) X.env)).all (fun x => !x.1) && (backToKw cpos (keywordEach [] X.env)).all (fun x => x.1.isSome)
      && decide ((e :: es).length + ([] : List Keyword).length + (if ([] : List Keyword).isEmpty then 0 else 1) < 30)) = true := by rfl)
    (hline : (apos.endLine == cpos.line) = true := by rfl) (hs : starEach (e :: es) X.env = (false, eval e X.env) :: starEach es X.env := by rfl) (hplain : (backTo cpos (starEach es X.env)).any (·.1) = false := by rfl) :
    PE X (.Call (.Attribute o name apos) (e :: es) [] cpos) (tBM K T r to t) := hK ▸ pe_bm pa slot hty hm ho ha hbase hfew hline hs hplain
end

theorem ro_1018 {K : PySem.W.Frag} : Ro K (rI CPow fun i j => .int (i ^ j.toNat)) (.v (.int 10)) (.v (.int 18)) (.v (.int 1000000000000000000)) := ro_I (K := K) (C := CPow) (g := fun i j => .int (i ^ j.toNat)) (i := 10) (j := 18) ⟨by decide, by decide, by decide⟩
theorem getD_vis {ns : List Int} {j : Nat} (h : j < ns.length) : (vis ns).getD j .non = .int (ns.getD j 0) := by
  rw [List.getD_eq_getElem?_getD, List.getD_eq_getElem?_getD, List.getElem?_map, List.getElem?_eq_getElem h]
  rfl
theorem vis_at {ns : List Int} {i : Nat} {x : V} (h : (vis ns)[i]? = some x) : ∃ n, ns[i]? = some n ∧ V.int n = x := by
  rw [List.getElem?_map] at h
  cases q : ns[i]? with
  | none => rw [q] at h; cases h
  | some n => rw [q] at h; exact ⟨n, rfl, Option.some.inj h⟩
theorem map_take_next {α β : Type} {l : List α} {f : α → β} {i : Nat} {x : α} (h : l[i]? = some x) : (l.take (i + 1)).map f = (l.take i).map f ++ [f x] := by
  rw [List.take_add_one, h, List.map_append]
  rfl
theorem zipIdx_at {α : Type} {l : List α} {i : Nat} {x : α} (h : l[i]? = some x) : l.zipIdx[i]? = some (x, i) := by
  rw [List.getElem?_zipIdx, h]
  simp

theorem vis_app (a : List Int) (n : Int) : vis (a ++ [n]) = vis a ++ [.int n] := by
  rw [vis, List.map_append]
  rfl
theorem vss_app (a : List Str) (n : Str) : vss (a ++ [n]) = vss a ++ [.str n] := by
  rw [vss, List.map_append]
  rfl

section
variable {K : PySem.W.Frag} {σ : L2.St} {H : Hp} {te ta tb tc : TE} {x y : V} {b : Bool}
/-- [x, y][int(b)] -/
theorem er_pick (h1 : Er K ta σ H (.v x)) (h2 : Er K tb σ H (.v y)) (hb : Er K tc σ H (.b b)) : Er K (tOp (rIxL K) (tLst (tCons ta (tCons tb tNil))) (tCB rInt1 (tCons tc tNil))) σ H (.v (if b = true then y else x)) := by
  refine er_op (d1 := .n [x, y]) (d2 := .i (if b then 1 else 0)) (er_lst (vs := [x, y]) (era_cons h1 (era_cons h2 era_nil)) (by simp)) (er_cb (era_cons hb era_nil) rc_intB) ?_
  cases b with
  | true => exact ro_ixN (by decide) rfl
  | false => exact ro_ixN (by decide) rfl
end
theorem cutS_to (l : List Nat) (n : Nat) : cutS (S l) none (some (n : Int)) = S (l.take n) := by
  unfold cutS
  rw [HT.sIx_none, HT.sIx_nat]
  show S _ = S _
  congr 1
  rw [List.drop_zero, S_list, S_len, Nat.sub_zero, List.take_eq_take_iff]
  omega
theorem cutS_from (l : List Nat) (n : Nat) : cutS (S l) (some (n : Int)) none = S (l.drop n) := by
  unfold cutS
  rw [HT.sIx_none, HT.sIx_nat, S_len, S_list]
  show S _ = S _
  congr 1
  by_cases h : n ≤ l.length
  · rw [Nat.min_eq_left h, List.take_of_length_le (by rw [List.length_drop]; exact Nat.le_refl _)]
  · rw [Nat.min_eq_right (by omega), List.drop_of_length_le (by omega : l.length ≤ n), List.drop_length]
    simp
theorem cutV_from (l : List V) (n : Nat) : cutV l (some (n : Int)) none = l.drop n := by
  unfold cutV
  rw [HT.sIx_none, HT.sIx_nat]
  by_cases h : n ≤ l.length
  · rw [Nat.min_eq_left h, List.take_of_length_le (by rw [List.length_drop]; exact Nat.le_refl _)]
  · rw [Nat.min_eq_right (by omega), List.drop_of_length_le (by omega : l.length ≤ n), List.drop_length]
    simp
theorem cutV_mid (l : List V) (n m : Nat) (h : n ≤ m) (hm : m ≤ l.length) : cutV l (some (n : Int)) (some (m : Int)) = (l.drop n).take (m - n) := by
  unfold cutV
  simp only [HT.sIx_nat, Nat.min_eq_left hm, Nat.min_eq_left (Nat.le_trans h hm)]
section
variable {K : PySem.W.Frag} {σ : L2.St} {H : Hp} {te ta tb : TE}
theorem er_slTo {l : List Nat} {n : Nat} (h : Er K te σ H (.s (S l))) (hz : l.length ≤ 100000) (h2 : Er K tb σ H (.i (n : Int))) : Er K (tSl rSlS te tNoPart (tPart tb)) σ H (.s (S (l.take n))) := by
  rw [← cutS_to]
  exact er_slS h (by rw [S_len]; exact hz) eo_non (eo_of h2)
theorem er_slFrom {l : List Nat} {n : Nat} (h : Er K te σ H (.s (S l))) (hz : l.length ≤ 100000) (h2 : Er K tb σ H (.i (n : Int))) : Er K (tSl rSlS te (tPart tb) tNoPart) σ H (.s (S (l.drop n))) := by
  rw [← cutS_from]
  exact er_slS h (by rw [S_len]; exact hz) (eo_of h2) eo_non
theorem vis_drop (ns : List Int) (n : Nat) : (vis ns).drop n = vis (ns.drop n) := by rw [vis, ← List.map_drop]
theorem vis_take (ns : List Int) (n : Nat) : (vis ns).take n = vis (ns.take n) := by rw [vis, ← List.map_take]
theorem er_slvFrom {ns : List Int} {n : Nat} (h : Er K te σ H (.l (vis ns))) (h2 : Er K tb σ H (.i (n : Int))) : Er K (tSl (rSlL K) te (tPart tb) tNoPart) σ H (.n (vis (ns.drop n))) := by
  rw [← vis_drop, ← cutV_from]
  exact er_slL h (eo_of h2) eo_non
theorem er_slvMid {ns : List Int} {n m : Nat} (h : Er K te σ H (.l (vis ns))) (h1 : Er K ta σ H (.i (n : Int))) (h2 : Er K tb σ H (.i (m : Int))) (hnm : n ≤ m) (hm : m ≤ ns.length) : Er K (tSl (rSlL K) te (tPart ta) (tPart tb)) σ H (.n (vis ((ns.drop n).take (m - n)))) := by
  rw [← vis_take, ← vis_drop, ← cutV_mid _ _ _ hnm (by rw [List.length_map]; exact hm)]
  exact er_slL h (eo_of h1) (eo_of h2)
end
end Mi

set_option maxHeartbeats 2000000
namespace Mi
open PySem PySem.Spec PyProof.Rows L2 Evl
section
variable {K : PySem.W.Frag} {σ : L2.St} {H H0 H' : Hp} {te ta tb : TE} {t u : TT} {a b : Bool} {d d' : Dd} {D : Ends} {tu tw tz : TS} {x y : V}
/-- if c: x = e, over texts of one sign -/
theorem a_ifSetC {i c e : Nat} (h : Et K t σ H b) (h1 : b = true → Er K te σ H (.s (S [c]))) (h2 : σ.set i (some (.str (S [e]))) = σ) (k : ∀ H1, Ex H H1 → tz D (σ.set i (some (.str (S [if b = true then c else e])))) H1) : tSeq (tIfS t (tAsg te (gName i)) tNext) tz D σ H :=
  a_ifAsg (x := .str (S [if b = true then c else e])) h (fun hb => by rw [if_pos hb]; exact h1 hb) (fun hb => by rw [if_neg (by rw [hb]; exact Bool.false_ne_true)]; exact h2) k
theorem er_pickC {c e : Nat} (h1 : Er K ta σ H (.s (S [c]))) (h2 : Er K tb σ H (.s (S [e]))) (hb : Er K te σ H (.b b)) : Er K (tOp (rIxL K) (tLst (tCons ta (tCons tb tNil))) (tCB rInt1 (tCons te tNil))) σ H (.s (S [if b = true then e else c])) := by
  have h := er_pick h1 h2 hb
  have e0 : (if b = true then V.str (S [e]) else V.str (S [c])) = V.str (S [if b = true then e else c]) := by cases b <;> rfl
  rw [e0] at h
  exact h
end
end Mi

set_option maxHeartbeats 4000000
namespace Mi
open PySem PySem.Spec PyProof.Rows L2 Evl PySem.W

/-! ### an object of ours that was not tracked is tracked from here on -/
theorem inv_track {X : Cx} {pins : List (Addr × Obj)} {σ : L2.St} {H : Hp} {s : Shared} {hp : Heap} {tn : Nat} {ch : List Addr} {T : Addr} {ob : HO} (I : Inv X pins σ H s) (kp : ∀ b o, b ∉ ch → s.heap.get? b = some o → hp.get? b = some o) (ok : ∀ b ∈ ch, FpOk X pins H b) (hT : T ∈ ch)
    (new : ObjOk X.prog X.w (upd H T ob) hp T ob) : Inv X pins σ (upd H T ob) { s with heap := hp, toks := tn } := by
  have hN : H T = none := (ok T hT).1
  have away : ∀ b u, H b = some u → b ∉ ch := fun b u e z => by
    rw [(ok b z).1] at e
    cases e
  have same : ∀ {b u}, H b = some u → upd H T ob b = some u := fun {b u} e => by
    have hb : b ≠ T := fun z => by rw [z, hN] at e; cases e
    rw [upd_ne hb]
    exact e
  refine I.step (ch := ch) ?a1 ?a2 ?a3 ?a4 ?a5 ?a6 ?a7 ?a8 ?a9 ?b1 I.bare
  case a1 => exact fun b hb => ⟨(ok b hb).2.2.2.1, (ok b hb).2.1, (ok b hb).2.2.2.2.1, (ok b hb).2.2.2.2.2⟩
  case a2 => exact fun b o _ _ hc e _ => kp b o hc e
  case a3 => exact fun b o _ _ hc e _ => ⟨o.slots, kp b o hc e⟩
  case a4 =>
    intro b o hc e n
    have hb : b ≠ T := by
      rintro rfl
      exact hc hT
    rw [upd_ne hb]
    exact n
  case a5 => exact fun b o hc e => ⟨o, kp b o hc e⟩
  case a6 => exact fun b xs e => same e
  case a7 => exact fun b o u e => same e
  case a8 =>
    intro b ps e
    refine ⟨#[], ?_⟩
    rw [same e]
    simp
  case a9 =>
    rintro m ⟨o, es, ep, ho, r⟩
    exact ⟨o, es, ep, kp _ o (fun z => (ok _ z).2.1 rfl) ho, r⟩
  case b1 =>
    intro b u e
    by_cases hb : b = T
    · subst hb
      rw [upd_same] at e
      cases e
      exact new
    · rw [upd_ne hb] at e
      refine (I.hok b u e).stay (fun c v hc z => kp c v ?_ z) (fun c z => same z) fun c xs z => same z
      rcases hc with z | z
      · exact z ▸ away b u e
      · exact away c _ z

/-! ### sorted by a def that answers its text -/
abbrev spId (K : PySem.W.Frag) : Sp := spR K (fun _ : List Nat => True) (fun a => [.s (S a)]) fun a => .s (S a)
def ordd (b : Bool) (ys : List (List Nat)) : List (List Nat) := ys.mergeSort (if b = true then fun x y => decide (y ≤ x) else fun x y => decide (x ≤ y))
def IsT (u : Value) (z : List Nat) : Prop := ∃ t, u = .str (S z) t
theorem each_of_vals : ∀ {ys : List (List Nat)} {us : List Value}, Vals (vss (ys.map S)) us → EachIs IsT us ys
  | [], _, h => by cases h; exact .nil
  | z :: r, _, h => by
    cases h with
    | cons a b => exact .cons a (each_of_vals b)
theorem vals_of_each : ∀ {us : List Value} {ys : List (List Nat)}, EachIs IsT us ys → Vals (vss (ys.map S)) us
  | _, _, .nil => .nil
  | _, _, .cons a b => .cons a (vals_of_each b)
theorem each_more {u : Value} {z : List Nat} (hu : IsT u z) : ∀ {us : List Value} {ys : List (List Nat)}, EachIs IsT us ys → EachIs IsT (us ++ [u]) (ys ++ [z])
  | _, _, .nil => .cons hu .nil
  | _, _, .cons a b => .cons a (each_more hu b)
theorem reads_of_each {hp : Heap} {us : List Value} {ys : List (List Nat)} (h : EachIs IsT us ys) : EachIs (fun v d => ∃ as, Reads hp v d as) us (ys.map fun z => PyData.str (S z)) := by
  induction h with
  | nil => exact .nil
  | cons a b ih =>
    obtain ⟨t, rfl⟩ := a
    exact .cons ⟨[], .str _ t⟩ ih
theorem dataLe_S (b : Bool) : dataLe b (fun z : List Nat => PyData.str (S z)) = if b = true then fun x y => decide (y ≤ x) else fun x y => decide (x ≤ y) := by
  cases b
  · rw [dataLe_str]; rfl
  · rw [dataGe_str]; rfl
/-- the heap without the object at k -/
def less (hp : Heap) (k : Addr) : Heap := hp.update k fun o => { o with data := .freed }
theorem less_at {hp : Heap} {k : Addr} {o : Obj} (h : hp.get? k = some o) : (less hp k).get? k = none := by
  cases hp with
  | mk objs l =>
    unfold less Heap.update Heap.get?
    simp only [Array.getElem?_modify, if_true]
    cases e : objs[k]? with
    | none => rfl
    | some q => rfl
theorem less_ne {hp : Heap} {k c : Addr} (h : c ≠ k) : (less hp k).get? c = hp.get? c := by
  unfold less
  rw [Heap.get?_update_ne _ _ _ _ h]
theorem each_at : ∀ {us : List Value} {ys : List (List Nat)} {i : Nat} {u : Value}, EachIs IsT us ys → us[i]? = some u → ∃ z, ys[i]? = some z ∧ IsT u z
  | [], _, _, _, _, h => by simp at h
  | _ :: _, _, 0, _, e, h => by
    cases e with
    | cons a b => exact ⟨_, rfl, Option.some.inj h ▸ a⟩
  | _ :: _, _, i + 1, _, e, h => by
    cases e with
    | cons a b => exact each_at (i := i) b h
theorem sorted_def {X : Cx} {k : Nat} {f : Addr} {fd : FuncData} {pn : Str} {b : Bool} {kw : List (Str × Value)} {pins : List (Addr × Obj)} {s : Shared} {σ : L2.St} {H : Hp} {a : Addr} {ys : List (List Nat)} {Q : VK}
    (F : FnOk X.prog X.w X.K X.mg X.base CX0 k f fd [pn] (spId X.K)) (hb : Binds X.K fd [pn] []) (hr : Room (k + 2) X.A) (I : Inv X pins σ H s) (hs : SqL X.K H a (vss (ys.map S)))
    (ha1 : argsOk "sorted" ⟨[.ref a], kw⟩) (ha2 : ∀ x, argsOk "list.sort" ⟨[.ref x], kw⟩) (ht : ∀ x, Builtin.«list.sort» ⟨[.ref x], kw⟩ = ksk_tree x (.ref f) b)
    (q : ∀ H2 p, Ex H H2 → H2 p = none → Q (.ref p) (upd H2 p (.lst (vss ((ordd b ys).map S))))) :
    wpAny (model X.prog X.w) X.A (call (.builtin "sorted") [.ref a] kw) (EP X pins σ Q) X.xe s := by
  obtain ⟨its, rv, hl, hz⟩ := I.list hs
  have hev := each_of_vals rv
  have hle : its.length = ys.length := hev.length
  have hZ : its.length ≤ sizeLine := by rw [← rv.length]; exact hz
  have un : X.A.in1.in1.units < cLine := by
    have h := hr.un
    show X.A.units + 1 + 1 < cLine
    omega
  have hr2 : Room k X.A.in1.in1 := (Room.in1 (show Room (k + 1 + 1) X.A from hr)).in1
  refine sorted_of_sort hl.isList hZ ha1 ha2 fun E' => ?_
  rw [ht]
  have hD := copyHeap_at s.heap its
  generalize eD : s.heap.objs.size + 1 = D at hD ⊢
  have hDs : D < (copyHeap s.heap its).objs.size := Heap.lt_size hD
  obtain ⟨e1, hD1⟩ : ∃ e1, ((copyHeap s.heap its).update D (Obj.mapSeq fun _ => (#[] : Array Value))).get? D = some (seqObj "list" #[] e1) := ⟨_, get?_update_seq hD fun _ => #[]⟩
  unfold ksk_tree
  refine wpAny_bind (listItems_at (s := { s with heap := copyHeap s.heap its }) hD rfl ?_)
  refine wpAny_bind (listUpdate_at (s := { s with heap := copyHeap s.heap its }) hD rfl ?_ (by rw [List.size_toArray]; exact hZ) (Nat.zero_le _))
  refine wpAny_bind (seqEpoch_at (s := { s with heap := (copyHeap s.heap its).update D (Obj.mapSeq fun _ => (#[] : Array Value)) }) hD1 rfl ?_)
  refine wpAny_bind (wpAny_newTuple ?_ (show its.length ≤ _ from hZ))
  refine wpAny_bind (wpAny_newList ?_ (Nat.zero_le _))
  refine wpAny_holding ?_
  have oldC : ∀ c o, s.heap.get? c = some o → c ≠ D ∧ (copyHeap s.heap its).get? c = some o := fun c o e => ⟨fun z => by
    have h1 : c < s.heap.objs.size := Heap.lt_size e
    rw [z, ← eD] at h1
    exact absurd h1 (Nat.not_lt.mpr (Nat.le_succ _)), copyHeap_old e⟩
  have dge : s.heap.objs.size ≤ D := Nat.le_of_succ_le (Nat.le_of_eq eD)
  have szK : (((copyHeap s.heap its).update D (Obj.mapSeq fun _ => (#[] : Array Value))).push (seqObj "tuple" its.toArray 0)).objs.size = (copyHeap s.heap its).objs.size + 1 := by rw [size_push', Heap.size_update]
  have hK : ((((copyHeap s.heap its).update D (Obj.mapSeq fun _ => (#[] : Array Value))).push (seqObj "tuple" its.toArray 0)).push (seqObj "list" #[] 0)).get? (((copyHeap s.heap its).update D (Obj.mapSeq fun _ => (#[] : Array Value))).push (seqObj "tuple" its.toArray 0)).objs.size = some (seqObj "list" #[] 0) := Heap.get?_push_size _ rfl
  have hD2 : ((((copyHeap s.heap its).update D (Obj.mapSeq fun _ => (#[] : Array Value))).push (seqObj "tuple" its.toArray 0)).push (seqObj "list" #[] 0)).get? D = some (seqObj "list" #[] e1) := Heap.get?_push_of_some _ (Heap.get?_push_of_some _ hD1)
  have old2 : ∀ c o, s.heap.get? c = some o → ((((copyHeap s.heap its).update D (Obj.mapSeq fun _ => (#[] : Array Value))).push (seqObj "tuple" its.toArray 0)).push (seqObj "list" #[] 0)).get? c = some o := fun c o e => by
    obtain ⟨c1, c2⟩ := oldC c o e
    exact Heap.get?_push_of_some _ (Heap.get?_push_of_some _ ((Heap.get?_update_ne _ _ _ _ c1).trans c2))
  have hKge : s.heap.objs.size ≤ (((copyHeap s.heap its).update D (Obj.mapSeq fun _ => (#[] : Array Value))).push (seqObj "tuple" its.toArray 0)).objs.size := by rw [szK]; omega
  have hDK : D ≠ (((copyHeap s.heap its).update D (Obj.mapSeq fun _ => (#[] : Array Value))).push (seqObj "tuple" its.toArray 0)).objs.size := by rw [szK]; omega
  show wpAny _ _ (ksk_rest D (.ref f) b its.toArray e1 (.ref (((copyHeap s.heap its).update D (Obj.mapSeq fun _ => (#[] : Array Value))).push (seqObj "tuple" its.toArray 0)).objs.size)) _ _ { s with heap := ((((copyHeap s.heap its).update D (Obj.mapSeq fun _ => (#[] : Array Value))).push (seqObj "tuple" its.toArray 0)).push (seqObj "list" #[] 0)) }
  revert hK hD2 old2 hKge hDK
  generalize (((copyHeap s.heap its).update D (Obj.mapSeq fun _ => (#[] : Array Value))).push (seqObj "tuple" its.toArray 0)).objs.size = kS
  generalize ((((copyHeap s.heap its).update D (Obj.mapSeq fun _ => (#[] : Array Value))).push (seqObj "tuple" its.toArray 0)).push (seqObj "list" #[] 0)) = hh
  intro hK hD2 old2 hKge hDK
  have I2 : Inv X pins σ H { s with heap := hh } := I.kept (t' := s.toks) old2
  have hDge : s.heap.objs.size ≤ D := dge
  have fD : FpOk X pins H D := I.fpOk hDge (I.hok.fresh hDge)
  have fK : FpOk X pins H kS := I.fpOk hKge (I.hok.fresh hKge)
  have repin : ∀ {H' : Hp} {t : Shared} {kA : Array Value} {e : Nat}, Inv X pins σ H' t → t.heap.get? D = some (seqObj "list" #[] e1) → H' D = none → t.heap.get? kS = some (seqObj "list" kA e) → H' kS = none → Inv X (pins ++ [(D, seqObj "list" #[] e1), (kS, seqObj "list" kA e)]) σ H' t := by
    intro H' t kA e J d1 d2 k1 k2
    refine J.pins_of fun p hp => ?_
    rcases List.mem_append.mp hp with h | h
    · exact J.pin p (List.mem_append_right _ h)
    · rcases List.mem_cons.mp h with rfl | h
      · exact ⟨d1, d2, fD.2.1, fD.2.2.1, fun v => by simp [seqObj]⟩
      · rw [List.mem_singleton.mp h]
        exact ⟨k1, k2, fK.2.1, fK.2.2.1, fun v => by simp [seqObj]⟩
  unfold ksk_rest
  refine wpAny_bind (wpAny_rule ?_)
  first
    | rw [List.forIn_toArray]
    | (rw [← Array.forIn_toList]; simp only [List.toList_toArray])
    | rw [← Array.forIn_toList]
  refine wpAny_bind (ksk_fold (fun i t => ∃ H' kA e, Ex H H' ∧ Inv X (pins ++ [(D, seqObj "list" #[] e1), (kS, seqObj "list" kA e)]) σ H' t ∧ EachIs IsT kA.toList (ys.take i)) its 0 { s with heap := hh } ⟨H, #[], 0, Ex.refl H, repin I2 hD2 fD.1 hK fK.1, by rw [List.take_zero]; exact .nil⟩ ?turn ?over)
  case turn =>
    rintro j x t hx ⟨H', kA, e, hex, J, hk⟩
    simp only [Nat.zero_add] at hk ⊢
    obtain ⟨z, hz1, tz, rfl⟩ := each_at hev hx
    have hj : j < its.length := (List.getElem?_eq_some_iff.mp hx).1
    have hkz : kA.size ≤ its.length := by
      have h1 := hk.length
      rw [Array.length_toList, List.length_take] at h1
      omega
    have call1 : wpAny (model X.prog X.w) X.A.in1.in1 (call (.ref f) [.str (S z) tz]) (EP X (pins ++ [(D, seqObj "list" #[] e1), (kS, seqObj "list" kA e)]) σ fun v H2 => v = .str (S z) ∧ Ex H' H2) (fun _ _ => False) t := by
      have rx : Vals [V.str (S z)] [Value.str (S z) tz] := .cons ⟨tz, rfl⟩ .nil
      have hsp : spId X.K [V.str (S z)] H' (fun v H2 => v = .str (S z) ∧ Ex H' H2) E0 := ⟨z, trivial, .cons rfl .nil, fun v H2 ee hv => ⟨hv, ee⟩⟩
      have bd := hb t [.str (S z) tz] J.kIn rfl
      refine wpAny_call (codeAny_mono (F.run X.A.in1.in1 X.stack t H' ⟨[.str (S z) tz], []⟩ _ _ _ E0 hr2 J.env0.in1.in1 bd rx hsp) fun r t' hq => ?_)
      cases r with
      | error e => exact hq.elim
      | ok fl =>
        cases fl with
        | ret u => exact J.after hq
        | next => exact hq.elim
        | brk => exact hq.elim
        | cont => exact hq.elim
    refine wpAny_bind (wpAny_attempt (wpAny_mono call1 (fun u t2 hu => ?_) fun _ _ hF => False.elim hF))
    obtain ⟨v, H2, J2, ru, rfl, hex2⟩ := hu
    obtain ⟨tu, rfl⟩ := ru
    have pD := J2.pin (D, seqObj "list" #[] e1) (List.mem_append_right _ (List.mem_append_right _ (.head _)))
    have pK := J2.pin (kS, seqObj "list" kA e) (List.mem_append_right _ (List.mem_append_right _ (.tail _ (.head _))))
    try dsimp only
    obtain ⟨c2, hc2⟩ : ∃ c2, (t2.heap.update kS (Obj.mapSeq (·.push (.str (S z) tu)))).get? kS = some (seqObj "list" (kA.push (.str (S z) tu)) c2) := ⟨_, get?_update_seq pK.1 (·.push _)⟩
    have keepK : ∀ b o, b ∉ [kS] → t2.heap.get? b = some o → (t2.heap.update kS (Obj.mapSeq (·.push (.str (S z) tu)))).get? b = some o := fun b o hb ho => (Heap.get?_update_ne _ _ _ _ (fun z => hb (by rw [z]; exact .head _))).trans ho
    have hsz2 : (kA.push (.str (S z) tu)).size ≤ sizeLine + 1 := by
      rw [Array.size_push]
      omega
    refine wpAny_bind (listUpdate_at pK.1 rfl ?_ (by omega) hsz2)
    refine wpAny_pure ⟨rfl, H2, kA.push (.str (S z) tu), c2, hex.trans hex2, ?_, ?_⟩
    · refine repin (Inv.turnedL (t' := t2.toks) J2.unpinned keepK (fun b hb => ?_)) ?_ pD.2.1 hc2 pK.2.1
      · rw [List.mem_singleton.mp hb]
        exact ⟨pK.2.1, fK.2⟩
      · exact keepK D _ (fun h => hDK (List.mem_singleton.mp h)) pD.1
    · have ek : ys.take (j + 1) = ys.take j ++ [z] := by rw [List.take_add_one, hz1]; rfl
      rw [ek, Array.toList_push]
      exact each_more ⟨tu, rfl⟩ hk
  case over =>
    rintro t ⟨H', kA, e, hex, J, hk⟩
    have e3 : ys.take (0 + its.length) = ys := List.take_of_length_le (by omega)
    rw [e3] at hk
    have hsz : kA.size = its.length := by
      have h1 := hk.length
      rw [Array.length_toList] at h1
      omega
    have pD := J.pin (D, seqObj "list" #[] e1) (List.mem_append_right _ (List.mem_append_right _ (.head _)))
    have pK := J.pin (kS, seqObj "list" kA e) (List.mem_append_right _ (List.mem_append_right _ (.tail _ (.head _))))
    try dsimp only
    refine wpAny_bind (listItems_at pK.1 rfl ?_)
    have alk : AllAlike (ys.map fun z => PyData.str (S z)) := AllAlike.of fun _ _ => rfl
    have srt : Sortable (ys.map fun z => PyData.str (S z)) := Sortable.others fun z => ⟨by simp, fun xs => by simp⟩
    have dep : ∀ d, d ∈ ys.map (fun z => PyData.str (S z)) → X.A.in1.in1.units + d.depth < cLine := fun d hd => by
      obtain ⟨z, _, rfl⟩ := List.mem_map.mp hd
      show X.A.in1.in1.units + 0 < cLine
      omega
    have rd := reads_of_each (hp := t.heap) hk
    have kb : KeepsBut D (less t.heap kS) t.heap := fun c o hc ho => by
      have hck : c ≠ kS := fun z => by rw [z, less_at pK.1] at ho; cases ho
      rw [less_ne hck] at ho
      exact ho
    refine keyH_end (κ := dataKind t.heap (ys.map fun z => PyData.str (S z))) (h₁ := less t.heap kS) kb (less_at pK.1) pK.1 pD.1 (Ne.symm hDK) (SortsAt.data rd alk srt dep) hsz hZ fun h4 tk c k4 n4 => ⟨rfl, ?_⟩
    have out1 : EachIs IsT (sortVals (dataKind t.heap (ys.map fun z => PyData.str (S z))) b kA.toList its) (ys.mergeSort (dataLe b fun z => PyData.str (S z))) := keyedOut_each (rev := b) (fun z => PyData.str (S z)) ⟨t.heap, kA.toList, alk, rfl, rd⟩ hev
    rw [dataLe_S] at out1
    have keep4 : ∀ c o, c ∉ [kS, D] → t.heap.get? c = some o → h4.get? c = some o := fun c o hc ho => by
      refine k4 c o (fun z => hc (by rw [z]; simp)) ?_
      rw [less_ne (fun z => hc (by rw [z]; simp))]
      exact ho
    have hlen4 : (vss ((ordd b ys).map S)).length ≤ sizeLine := by
      unfold vss ordd
      rw [List.length_map, List.length_map, List.length_mergeSort]
      omega
    have J4 : Inv X pins σ (upd H' D (.lst (vss ((ordd b ys).map S)))) { t with heap := h4, toks := tk } := by
      refine inv_track J.unpinned keep4 (fun c hc => ?_) (by simp) ⟨hlen4, _, c, vals_of_each out1, n4⟩
      rcases List.mem_cons.mp hc with rfl | hc
      · exact ⟨pK.2.1, fK.2⟩
      · rw [List.mem_singleton.mp hc]
        exact ⟨pD.2.1, fD.2⟩
    exact ⟨.ref D, _, J4, rfl, q H' D hex pD.2.1⟩

/-- sorted(e, key=f[, reverse=True]), f a def of the text -/
def rSortD (K : PySem.W.Frag) (b : Bool) (vs : List V) (H : Hp) (Q : VK) : Prop := ∃ (a : Addr) (ys : List (List Nat)), vs = [.ref a] ∧ SqL K H a (vss (ys.map S)) ∧ ∀ H2 p, Ex H H2 → H2 p = none → Q (.ref p) (upd H2 p (.lst (vss ((ordd b ys).map S))))
def tSortD (K : PySem.W.Frag) (b : Bool) (t : TE) : TE := fun σ H Q => tCons t tNil σ H fun vs H1 => rSortD K b vs H1 Q
section
variable {X : Cx} {k : Nat} {x pn : Str} {p px pos k1 k2 : Pos} {e : Expr} {t : TE}
theorem pe_sortD (F : Has X.prog X.w X.K X.mg X.base k x [pn] (spId X.K)) (hr : Room (k + 2) X.A) (hg : Gl X "sorted") (hm : X.mg "sorted" = none) (hgx : Gl X x) (he : PA X [e] (tCons t tNil)) (hdb : (x == ("__debug__" : Str)) = false := by decide)
    (hs : backTo pos (starEach [e] X.env) = (false, eval e X.env) :: backTo pos (starEach [] X.env) := by rfl) (hpl : (backTo pos (starEach [e] X.env)).any (·.1) = false := by rfl)
    (hall : (backToKw pos (keywordEach [⟨some "key", .Name x px, k1⟩] X.env)).all (·.1.isSome) = true := by rfl) (hnone : (backToKw pos (keywordEach [⟨some "key", .Name x px, k1⟩] X.env)).any (·.1.isNone) = false := by rfl) (hks : (backToKw pos (keywordEach [⟨some "key", .Name x px, k1⟩] X.env)).filterMap (·.1) = [Str.ofString "key"] := by rfl) :
    PE X (.Call (.Name "sorted" p) [e] [⟨some "key", .Name x px, k1⟩] pos) (tSortD X.K false t) := by
  obtain ⟨f, fd, hmx, hk, F, hb, _⟩ := F.ex
  have hc : CallRK X (.builtin "sorted") [Str.ofString "key"] (fun vs zs H Q => zs = [.ref f] ∧ rSortD X.K false vs H Q) := by
    rintro pins s σ H vs zs us ws Q I r rz ⟨rfl, a, ys, rfl, hs, q⟩
    obtain rfl := Vals.ref1 r
    obtain ⟨w1, rfl, e1⟩ := vals1 rz
    obtain rfl : w1 = Value.ref f := e1
    exact sorted_def (b := false) F hb hr I hs (ksk_s1 _ _) (fun _ => ksk_l1 _ _) (fun x => ksk_t1 f x) q
  have P1 := pe_callBK (p := p) (pos := pos) hc hg hm (by rfl) he (pk_cons (pe_glob (pos := px) (v := .ref f) hgx hmx rfl hdb) pk_nil) (by decide) (by decide) hs hpl hall hnone hks
  refine ⟨fun pins s σ H Q I h => P1.run pins s σ H Q I ?_⟩
  show tCons t tNil σ H fun vs H1 => ([V.ref f] = [V.ref f]) ∧ rSortD X.K false vs H1 Q
  have e0 : (fun vs H1 => ([V.ref f] = [V.ref f]) ∧ rSortD X.K false vs H1 Q) = fun vs H1 => rSortD X.K false vs H1 Q := by
    funext vs H1
    simp
  rw [e0]
  exact h
theorem pe_sortDR (F : Has X.prog X.w X.K X.mg X.base k x [pn] (spId X.K)) (hr : Room (k + 2) X.A) (hg : Gl X "sorted") (hm : X.mg "sorted" = none) (hgx : Gl X x) (he : PA X [e] (tCons t tNil)) {pb : Pos} {kb : Nat} (hdb : (x == ("__debug__" : Str)) = false := by decide)
    (hs : backTo pos (starEach [e] X.env) = (false, eval e X.env) :: backTo pos (starEach [] X.env) := by rfl) (hpl : (backTo pos (starEach [e] X.env)).any (·.1) = false := by rfl)
    (hall : (backToKw pos (keywordEach [⟨some "key", .Name x px, k1⟩, ⟨some "reverse", .Constant (.bool true) kb pb, k2⟩] X.env)).all (·.1.isSome) = true := by rfl) (hnone : (backToKw pos (keywordEach [⟨some "key", .Name x px, k1⟩, ⟨some "reverse", .Constant (.bool true) kb pb, k2⟩] X.env)).any (·.1.isNone) = false := by rfl) (hks : (backToKw pos (keywordEach [⟨some "key", .Name x px, k1⟩, ⟨some "reverse", .Constant (.bool true) kb pb, k2⟩] X.env)).filterMap (·.1) = [Str.ofString "key", Str.ofString "reverse"] := by rfl) :
    PE X (.Call (.Name "sorted" p) [e] [⟨some "key", .Name x px, k1⟩, ⟨some "reverse", .Constant (.bool true) kb pb, k2⟩] pos) (tSortD X.K true t) := by
  obtain ⟨f, fd, hmx, hk, F, hb, _⟩ := F.ex
  have hc : CallRK X (.builtin "sorted") [Str.ofString "key", Str.ofString "reverse"] (fun vs zs H Q => zs = [.ref f, .bl true] ∧ rSortD X.K true vs H Q) := by
    rintro pins s σ H vs zs us ws Q I r rz ⟨rfl, a, ys, rfl, hs, q⟩
    obtain rfl := Vals.ref1 r
    obtain ⟨w1, w2, rfl, e1, e2⟩ := vals2 rz
    obtain rfl : w1 = Value.ref f := e1
    obtain rfl : w2 = Value.bool true := e2
    exact sorted_def (b := true) F hb hr I hs (ksk_s2 _ _ _) (fun _ => ksk_l2 _ _ _) (fun x => ksk_t2 f x true) q
  have P1 := pe_callBK (p := p) (pos := pos) hc hg hm (by rfl) he (pk_cons (pe_glob (pos := px) (v := .ref f) hgx hmx rfl hdb) (pk_cons pe_bl pk_nil)) (by decide) (by decide) hs hpl hall hnone hks
  refine ⟨fun pins s σ H Q I h => P1.run pins s σ H Q I ?_⟩
  show tCons t tNil σ H fun vs H1 => ([V.ref f, V.bl true] = [V.ref f, V.bl true]) ∧ rSortD X.K true vs H1 Q
  have e0 : (fun vs H1 => ([V.ref f, V.bl true] = [V.ref f, V.bl true]) ∧ rSortD X.K true vs H1 Q) = fun vs H1 => rSortD X.K true vs H1 Q := by
    funext vs H1
    simp
  rw [e0]
  exact h
end
section
variable {K : PySem.W.Frag} {σ : L2.St} {H : Hp} {te : TE}
theorem er_sortD {b : Bool} {ys : List (List Nat)} (h : Er K te σ H (.l (vss (ys.map S)))) : Er K (tSortD K b te) σ H (.n (vss ((ordd b ys).map S))) := fun H1 e Q q =>
  h H1 e _ fun v H2 e2 ⟨a, ea, ha⟩ => ⟨a, ys, by rw [ea], ha, fun H3 p e3 hp => q _ _ ((e2.trans e3).trans (Ex.new hp)) ⟨p, rfl, upd_same⟩⟩
end
end Mi

set_option maxHeartbeats 2000000
namespace Mi
open PySem PySem.Spec PyProof.Rows L2 Evl
abbrev vsl (L : List (List Nat)) : List V := vss (L.map S)
theorem vsl_len (L : List (List Nat)) : (vsl L).length = L.length := by simp [vss]
theorem vsl_app (L : List (List Nat)) (l : List Nat) : vsl (L ++ [l]) = vsl L ++ [.str (S l)] := by
  rw [vsl, List.map_append, vss, List.map_append]
  rfl
theorem vsl_at {L : List (List Nat)} {i : Nat} {x : V} (h : (vsl L)[i]? = some x) : ∃ l, L[i]? = some l ∧ V.str (S l) = x := by
  rw [List.getElem?_map, List.getElem?_map] at h
  cases q : L[i]? with
  | none => rw [q] at h; cases h
  | some l => rw [q] at h; exact ⟨l, rfl, Option.some.inj h⟩
section
variable {K : PySem.W.Frag} {σ : L2.St} {H H0 H' : Hp} {te ta tb : TE} {t u : TT} {a b : Bool} {d d' : Dd} {D : Ends} {tu tw tz : TS} {x y : V}
theorem a_ifSetS {i : Nat} {c e : List Nat} (h : Et K t σ H b) (h1 : b = true → Er K te σ H (.s (S c))) (h2 : σ.set i (some (.str (S e))) = σ) (k : ∀ H1, Ex H H1 → tz D (σ.set i (some (.str (S (if b = true then c else e))))) H1) : tSeq (tIfS t (tAsg te (gName i)) tNext) tz D σ H :=
  a_ifAsg (x := .str (S (if b = true then c else e))) h (fun hb => by rw [if_pos hb]; exact h1 hb) (fun hb => by rw [if_neg (by rw [hb]; exact Bool.false_ne_true)]; exact h2) k
theorem ro_ixSS {L : List (List Nat)} {i : Int} (h0 : 0 ≤ i) (h1 : i < L.length) : Ro K (rIxL K) (.l (vsl L)) (.v (.int i)) (.v (.str (S (L.getD i.toNat [])))) := by
  refine ro_ixL h0 ?_
  have h2 : i.toNat < L.length := by omega
  rw [List.getElem?_map, List.getElem?_map, List.getD_eq_getElem?_getD, List.getElem?_eq_getElem h2]
  rfl
theorem ro_ixSN {L : List (List Nat)} {i : Int} (h0 : 0 ≤ i) (h1 : i < L.length) : Ro K (rIxL K) (.n (vsl L)) (.v (.int i)) (.v (.str (S (L.getD i.toNat [])))) := fun v w H1 a b => ro_ixSS h0 h1 v w H1 a.n2l b
theorem rc_lenLL {L : List (List Nat)} : Rc K (rLenS K) [.l (vsl L)] (.v (.int (L.length : Int))) := by
  have h := rc_lenT (K := K) (ns := L.map S)
  rw [List.length_map] at h
  exact h
theorem rc_lenLN {L : List (List Nat)} : Rc K (rLenS K) [.n (vsl L)] (.v (.int (L.length : Int))) := by
  have h := rc_lenTN (K := K) (ns := L.map S)
  rw [List.length_map] at h
  exact h
/-- [n] * k -/
theorem er_same {n : Int} {k : Nat} (h : Er K te σ H (.i n)) (hk : k ≤ 1000) : Er K (tOp rRep (tLst (tCons te tNil)) (tC (.int (k : Int)))) σ H (.n (vis (List.replicate k n))) := by
  have e : vis (List.replicate k n) = (List.replicate k [V.int n]).flatten := by
    rw [vis, List.map_replicate, List.flatten_replicate_singleton]
  rw [e]
  exact er_op (er_lst (vs := [.int n]) (era_cons h era_nil) (by simp)) er_c (ro_rep (by simp; omega) (by omega))
end
theorem getD_memL {α : Type} {l : List α} {k : Nat} {z : α} (h : k < l.length) : l.getD k z ∈ l := by
  rw [List.getD_eq_getElem?_getD, List.getElem?_eq_getElem h]
  exact List.getElem_mem h
theorem getD_sz {l : List Int} {k : Nat} (h : k < l.length) : l.getD k 0 = l[k] := by
  rw [List.getD_eq_getElem?_getD, List.getElem?_eq_getElem h]
  rfl
end Mi

set_option maxHeartbeats 2000000
namespace Mi
open PySem PySem.Spec PyProof.Rows L2 Evl
section
variable {K : PySem.W.Frag} {σ : L2.St} {H H0 H' : Hp} {te ta tb : TE} {t u : TT} {a b : Bool} {d d' : Dd} {D : Ends} {tu tw tz : TS} {x y : V}
/-- if c: x = e else: x = f, both of one kind -/
theorem a_ifElse {i : Nat} (h : Et K t σ H b) (h1 : b = true → Er K ta σ H d) (h2 : b = false → Er K tb σ H d) (k : ∀ v H1, Ex H H1 → Is K H1 d v → tz D (σ.set i (some v)) H1) : tSeq (tIfS t (tAsg ta (gName i)) (tAsg tb (gName i))) tz D σ H :=
  a_if h (fun hb H1 e1 => a_asg1 (D := { D with nx := tz D }) ((h1 hb).mono e1) fun v H2 e2 z => k v H2 (e1.trans e2) z) (fun hb H1 e1 => a_asg1 (D := { D with nx := tz D }) ((h2 hb).mono e1) fun v H2 e2 z => k v H2 (e1.trans e2) z)
/-- a loop over a tuple that stands at l -/
theorem b_forU {l : Addr} {xs : List V} {tl : TE} {j : Nat} (h : Er K tl σ H (.v (.ref l))) (hx : SqT K H l xs) (Pv : Nat → L2.St → Hp → Prop) (h0 : ∀ H1, Ex H H1 → Pv 0 σ H1) (hl : ∀ i σ' H', i ≤ xs.length → Pv i σ' H' → SqT K H' l xs)
    (hs : ∀ i x σ' H', xs[i]? = some x → Pv i σ' H' → tu { D with nx := Pv (i + 1), ct := Pv (i + 1), bk := tz D } (σ'.set j (some x)) H') (hd : ∀ σ' H', Pv xs.length σ' H' → tz D σ' H') : tSeq (tFor (iTup K tl) (gName j) tu) tz D σ H :=
  h H (Ex.refl H) _ fun v H1 e z => by
    have ez : v = .ref l := z
    subst ez
    exact ⟨l, rfl, ⟨xs, ex_t e hx⟩, for_tup (D := { D with nx := tz D }) Pv (h0 H1 e) hl hs hd⟩
/-- a place of a list that was made here -/
theorem er_pos {xs : List V} {n : Nat} (h : Er K te σ H (.n xs)) (hx : xs[n]? = some x) : Er K (tOp (rIxL K) te (tC (.int (n : Int)))) σ H (.v x) :=
  er_op h er_c (ro_ixN (by omega) (by rw [Int.toNat_natCast]; exact hx))
end
theorem zipIdx_range (l : List Nat) : l.zipIdx = (List.range l.length).map fun k => (l.getD k 0, k) := by
  refine List.ext_getElem (by simp) fun i h1 h2 => ?_
  simp at h1 h2 ⊢
  rw [List.getElem?_eq_getElem (by omega)]
  rfl
end Mi

set_option maxHeartbeats 2000000
namespace Mi
open PySem PySem.Spec PyProof.Rows L2 Evl
theorem isAll_at {K : PySem.W.Frag} {H : Hp} : ∀ {ds : List Dd} {vs : List V} {i : Nat} {v : V}, IsAll K H ds vs → vs[i]? = some v → ∃ d, ds[i]? = some d ∧ Is K H d v
  | [], _, i, v, h, e => by cases h; simp at e
  | d :: ds, _, 0, v, h, e => by
    cases h with
    | cons a b => exact ⟨d, rfl, Option.some.inj e ▸ a⟩
  | d :: ds, _, i + 1, v, h, e => by
    cases h with
    | cons a b => exact isAll_at (i := i) b e
section
variable {K : PySem.W.Frag} {σ : L2.St} {H H0 H' : Hp} {te ta tb tc : TE} {t u : TT} {tr : TA} {a b : Bool} {d e d1 d2 : Dd} {D : Ends} {tu tw tz : TS} {x y : V}
/-- a loop over a list that is written out, its items of any kind -/
theorem a_forD {dss : List Dd} {j : Nat} (h : Era K tr σ H dss) (hz : dss.length ≤ 100000) (Pv : Nat → L2.St → Hp → Prop) (h0 : ∀ H1, Ex H H1 → Pv 0 σ H1)
    (hs : ∀ H1, Ex H H1 → ∀ i d v σ' H', dss[i]? = some d → (∀ H2, Ex H1 H2 → Is K H2 d v) → Pv i σ' H' → Ex H1 H' → tu { D with nx := fun σ2 H2 => Pv (i + 1) σ2 H2 ∧ Ex H1 H2, ct := fun σ2 H2 => Pv (i + 1) σ2 H2 ∧ Ex H1 H2, bk := D.nx } (σ'.set j (some v)) H')
    (hd : ∀ σ' H', Pv dss.length σ' H' → D.nx σ' H') : tFor (iList K (tLst tr)) (gName j) tu D σ H :=
  h H (Ex.refl H) _ fun vs H1 e1 z => by
    have len := z.len
    refine ⟨sz_of (by omega), fun p hp => ⟨p, rfl, ⟨vs, sq_of upd_same⟩, ?_⟩⟩
    have e2 : Ex H1 (upd H1 p (.lst vs)) := Ex.new hp
    have hq : (upd H1 p (.lst vs)) p = some (.lst vs) := upd_same
    have z2 := z.mono e2
    refine for_list (xs := vs) (fun i σ' H' => Pv i σ' H' ∧ Ex (upd H1 p (.lst vs)) H') ⟨h0 _ (e1.trans e2), Ex.refl _⟩ (fun i σ' H' _ q => sq_of (q.2 p _ hq)) (fun i v σ' H' hv q => ?_) fun σ' H' q => hd σ' H' (by rw [len]; exact q.1)
    obtain ⟨d, hd', hi⟩ := isAll_at z2 hv
    exact hs _ (e1.trans e2) i d v σ' H' hd' (fun H2 e3 => hi.mono e3) q.1 q.2
/-- [a, b][i], a and b of any kind -/
theorem er_pickD {i : Int} (h1 : Er K ta σ H d1) (h2 : Er K tb σ H d2) (hc : Er K tc σ H (.i i)) (hi : i = 0 ∨ i = 1) : Er K (tOp (rIxL K) (tLst (tCons ta (tCons tb tNil))) tc) σ H (if i = 0 then d1 else d2) := fun H1 e Q q =>
  h1 H1 e _ fun v1 H2 e2 z1 => h2 H2 (e.trans e2) _ fun v2 H3 e3 z2 => ⟨sz_of (by simp), fun p hp => by
    have e4 : Ex H3 (upd H3 p (.lst [v1, v2])) := Ex.new hp
    have hq : (upd H3 p (.lst [v1, v2])) p = some (.lst [v1, v2]) := upd_same
    refine hc _ (((e.trans e2).trans e3).trans e4) _ fun v H4 e5 z => ?_
    have ez : v = .int i := z
    subst ez
    rcases hi with rfl | rfl
    · exact ⟨p, [v1, v2], 0, v1, rfl, rfl, sq_of (e5 p _ hq), rfl, q _ _ (((e2.trans e3).trans e4).trans e5) (((z1.mono e3).mono e4).mono e5)⟩
    · exact ⟨p, [v1, v2], 1, v2, rfl, rfl, sq_of (e5 p _ hq), rfl, q _ _ (((e2.trans e3).trans e4).trans e5) ((z2.mono e4).mono e5)⟩⟩
/-- if c: x = e, values of any kind -/
theorem a_ifSetD {i : Nat} {v : V} (h : Et K t σ H b) (h1 : b = true → Er K te σ H d) (h2 : σ.set i (some v) = σ) (hv : Is K H e v) (k : ∀ w H1, Ex H H1 → Is K H1 (if b = true then d else e) w → tz D (σ.set i (some w)) H1) : tSeq (tIfS t (tAsg te (gName i)) tNext) tz D σ H :=
  a_when h (fun hb H1 e1 => a_asg1 (D := { D with nx := tz D }) ((h1 hb).mono e1) fun w H2 e2 z => k w H2 (e1.trans e2) (by rw [if_pos hb]; exact z)) (fun hb H1 e1 => by
    have g := k v H1 e1 (by rw [if_neg (by rw [hb]; exact Bool.false_ne_true)]; exact hv.mono e1)
    rw [h2] at g
    exact g)
end
theorem fnR {P : Program} {w : World} {K : PySem.W.Frag} {mg : Str → Option Value} {base : Heap} {x : Str} {st : Stmt} {f0 : Addr} {fd : FuncData} {N ps : List Str} {k : Nat} {T : Type} {pre : T → Prop} {args : T → List Dd} {ret : T → Dd}
    (F : Fun K x x st f0 fd) (Sc : FnScope N ps (defScope st)) (hl : ∀ a, (args a).length = ps.length)
    (hbody : ∀ (f : Addr) (cdv : Value) (A : Around) (outer : List Env) (s : Shared) (H : Hp) (a : T) (vs : List V) (Q : VK) (E : XK), Room k (A.deeper (envOfC x (defScope st) s.heap.objs.size f cdv)) → pre a → IsAll K H (args a) vs → (∀ v H', Ex H H' → Is K H' (ret a) v → Q v H') →
      ∃ t, PSs (cxOf CX0 P w K mg base N x (defScope st) f cdv A outer s H E).nox (defBody st) t ∧ t { nx := fun _ H' => Q .non H', rt := Q } (start N vs) H) :
    FnOk P w K mg base CX0 (k + 1) f0 fd ps (spR K pre args ret) :=
  F.ok Sc (fun vs H Q E hsp => by
    obtain ⟨a, _, hv, _⟩ := hsp
    rw [← hv.len, hl]) (fun cdv A outer s H vs Q E hr hsp => by
    obtain ⟨a, hp, hv, hk⟩ := hsp
    exact hbody f0 cdv A outer s H a vs Q E hr hp hv hk)
end Mi

set_option maxHeartbeats 4000000
namespace Mi
open PySem PySem.Spec PyProof.Rows L2 Evl
def topS (i : Nat) : Stmt := PySem.Challenge.pw_stampsheets_k01_layers_combined.main.body.getD i (.Pass ⟨0, 0, 0, 0⟩)
/-- what the top leaves of the names that the defs read -/
structure Txt (K : PySem.W.Frag) (mg : Str → Option Value) (tD tO : Tok) : Prop where
  g_DASH : mg "DASH" = some (.str (S [45]) tD)
  g_DOT : mg "DOT" = some (.str (S [46]) tO)
  t_DASH : tD ≠ 0
  t_DOT : tO ≠ 0
  t_DASH_DOT : tD ≠ tO
  b_len : mg "len" = none
  b_int : mg "int" = none
  b_bool : mg "bool" = none
  b_str : mg "str" = none
  b_tuple : mg "tuple" = none
  b_list : mg "list" = none
  b_zip : mg "zip" = none
  b_enumerate : mg "enumerate" = none
  b_range : mg "range" = none
  b_max : mg "max" = none
  b_isinstance : mg "isinstance" = none
  b_sorted : mg "sorted" = none
local macro_rules | `(tactic| walk_at "side") => `(tactic| (first | assumption | omega | exact rfl | decide | (simp only [List.length_cons, List.length_nil, List.length_map, List.length_append, List.length_replicate] <;> omega)))
local macro_rules | `(tactic| walk_at "ro") => `(tactic| (first
  | with_reducible exact ro_I0
  | with_reducible exact ro_1018
  | with_reducible exact ro_neC
  | with_reducible exact ro_eqC
  | with_reducible exact ro_neI
  | with_reducible exact ro_eqI
  | with_reducible exact ro_neB
  | with_reducible exact ro_eqB
  | ((with_reducible apply ro_mod); (walk_at "side"))
  | ((with_reducible apply ro_div) <;> (walk_at "side"))
  | ((with_reducible apply ro_mulL) <;> (walk_at "side"))
  | ((with_reducible apply ro_mulR) <;> (walk_at "side"))
  | ((with_reducible apply ro_addC); (walk_at "side"))
  | ((with_reducible apply ro_ixC) <;> (walk_at "side"))
  | ((with_reducible apply ro_ixI) <;> (walk_at "side"))
  | ((with_reducible apply ro_ixIN) <;> (walk_at "side"))
  | ((with_reducible apply ro_ixT2) <;> (walk_at "side"))
  | ((with_reducible apply ro_ixG) <;> (walk_at "side"))
  | ((with_reducible apply ro_eq); exact rfl)
  | ((with_reducible apply ro_ne); exact rfl)
  | with_reducible exact ro_isN
  | with_reducible exact ro_notN
  | with_reducible exact ro_eqL
  | with_reducible exact ro_neL
  | with_reducible exact ro_eqU
  | ((with_reducible apply ro_cat); (walk_at "side"))
  | with_reducible exact ro_inLi
  | with_reducible exact ro_inNi
  | with_reducible exact ro_inUi
  | ((with_reducible apply ro_inL) <;> (walk_at "side"))
  | ((with_reducible apply ro_inN) <;> (walk_at "side"))
  | ((with_reducible apply ro_inU) <;> (walk_at "side"))))
local macro_rules | `(tactic| walk_at "rc") => `(tactic| (first
  | with_reducible exact rc_int
  | with_reducible exact rc_intB
  | with_reducible exact rc_max2
  | ((with_reducible apply rc_lenC); (walk_at "side"))
  | with_reducible exact rc_lenI
  | with_reducible exact rc_lenT
  | with_reducible exact rc_lenIN
  | with_reducible exact rc_lenTN
  | with_reducible exact rc_lenL
  | with_reducible exact rc_lenN
  | with_reducible exact rc_lenU
  | with_reducible exact rc_listL
  | with_reducible exact rc_listU
  | with_reducible exact rc_tupL
  | with_reducible exact rc_tupN
  | ((with_reducible apply rc_isi_int); decide +kernel)
  | ((with_reducible apply rc_isi_str); decide +kernel)
  | ((with_reducible apply rc_isi_bl); decide +kernel)
  | ((with_reducible apply rc_isi_non); decide +kernel)
  | ((with_reducible apply rc_isi_u); decide +kernel)
  | ((with_reducible apply rc_isi_l); decide +kernel)))
local macro_rules | `(tactic| walk_at "er") => `(tactic| (first
  | ((with_reducible apply er_var); (exact rfl); assumption)
  | ((with_reducible apply er_v); exact rfl)
  | with_reducible exact er_c
  | ((with_reducible apply er_op); (walk_at "er"); (walk_at "er"); (walk_at "ro"))
  | ((with_reducible apply er_cb); (walk_at "era"); (walk_at "rc"))
  | ((with_reducible apply er_lst'); (walk_at "era"); (exact rfl); (walk_at "side"))
  | ((with_reducible apply er_tup'); (walk_at "era"); (exact rfl); (walk_at "side"))
  | ((with_reducible apply er_notV); (walk_at "er"))
  | ((with_reducible apply er_andV); (walk_at "er"); (intro _; (walk_at "er")))
  | ((with_reducible apply er_orV); (walk_at "er"); (intro _; (walk_at "er")))
  | ((with_reducible apply er_ite); (walk_at "et"); (intro _; (walk_at "er")); (intro _; (walk_at "er")))))
local macro_rules | `(tactic| walk_at "era") => `(tactic| (first
  | with_reducible exact era_nil
  | ((with_reducible apply era_cons); (walk_at "er"); (walk_at "era"))))
local macro_rules | `(tactic| walk_at "et") => `(tactic| (first
  | ((with_reducible apply et_an); (walk_at "et"); (intro _; (walk_at "et")))
  | ((with_reducible apply et_orr); (walk_at "et"); (intro _; (walk_at "et")))
  | ((with_reducible apply et_nt); (walk_at "et"))
  | ((with_reducible apply et1); (walk_at "er"))
  | ((with_reducible apply et2); (walk_at "er"))))

section
variable {P : Program} {w : World} {K : PySem.W.Frag} {mg : Str → Option Value} {base : Heap} {tD tO : Tok}
abbrev s_agree : Stmt := topS 4
theorem sc_agree : FnScope ["one", "two", "first", "second"] ["one", "two"] (defScope s_agree) := ⟨rfl, rfl, rfl, by decide +kernel, rfl, by decide +kernel, by decide +kernel⟩

def okP (p : Nat × Nat) : Bool := p.1 == p.2 || (p.1 == 45 || p.2 == 45)
def agreeM (a b : List Nat) : Bool := (a.zip b).all okP
theorem zip_at {a b : List Nat} {i c d : Nat} (h1 : a[i]? = some c) (h2 : b[i]? = some d) : (a.zip b)[i]? = some (c, d) := List.getElem?_zip_eq_some (z := (c, d)) |>.mpr ⟨h1, h2⟩
theorem all_next {α : Type} {l : List α} {p : α → Bool} {i : Nat} {x : α} (h : l[i]? = some x) : (l.take (i + 1)).all p = ((l.take i).all p && p x) := by
  rw [List.take_add_one, h, List.all_append]
  simp
theorem all_end {α : Type} {l : List α} {p : α → Bool} : (l.take l.length).all p = l.all p := by rw [List.take_length]
theorem all_not {α : Type} {l : List α} {p : α → Bool} {i : Nat} {x : α} (h : l[i]? = some x) (hp : p x = false) : l.all p = false := by
  rw [List.all_eq_false]
  exact ⟨x, List.mem_of_getElem? h, by rw [hp]; exact Bool.false_ne_true⟩
abbrev sp_agree (K : PySem.W.Frag) : Sp := spR K (fun _ : List Nat × List Nat => True) (fun a => [.s (S a.1), .s (S a.2)]) fun a => .b (agreeM a.1 a.2)
theorem has_agree (T : Txt K mg tD tO) (h : At K mg "agree" s_agree ["one", "two"]) : Has P w K mg base 1 "agree" ["one", "two"] (sp_agree K) := by
  refine h.hasR sc_agree (fun _ => rfl) fun f cdv A outer s H a vs Q E hr hp hv hk => ?_
  obtain ⟨one, two⟩ := a
  rcases hv with _ | ⟨rfl, _ | ⟨rfl, _ | _⟩⟩
  have sc := sc_agree
  refine ⟨_, (pss_cons (ps_for PassesOwn.never rfl (pi_zipS (by rfl) T.b_zip (pa_cons (pv 0) (pa_cons (pv 1) pa_nil))) (pg_tup rfl (pgs_cons (pg_name (i := 2) sc.nd rfl (Or.inl rfl)) (pgs_cons (pg_name (i := 3) sc.nd rfl (Or.inl rfl)) pgs_nil))) (pss_one (ps_if (PW.pt (pw_and (pt_cmpR op_ne (pv 2) (pv 3) (nomark _)) (pw_and (pt_cmpR op_ne (pv 2) (pe_glob (v := .str (S [45])) rfl T.g_DASH ⟨_, rfl⟩) (nomark _)) (pw_and1 (pt_cmpR op_ne (pv 3) (pe_glob (v := .str (S [45])) rfl T.g_DASH ⟨_, rfl⟩) (nomark _)))))) (pss_one (ps_ret pe_bl)) pss_nil)))
    (pss_one (ps_ret pe_bl))), ?_⟩
  refine c_forZ (K := K) (one := one) (two := two) (by walk_at "era") (fun i σ' H' => ∃ x y, σ' = [some (.str (S one)), some (.str (S two)), x, y] ∧ Ex H H' ∧ ((one.zip two).take i).all okP = true) (fun H1 e => ⟨none, none, rfl, e, rfl⟩) ?_ ?_
  · rintro i c1 c2 σ' H' H2 h1 h2 ⟨x, y, rfl, e, hM⟩ e2
    refine' a_when1 (K := K) ?g1 ?g2 ?g3
    case g1 => walk_at "et"
    case g2 =>
      intro hb H3 e3
      refine' a_ret (K := K) ?g4 ?g5
      case g4 => walk_at "er"
      intro v H4 e4 hv
      refine hk v H4 (((e.trans e2).trans e3).trans e4) ?_
      have e0 : agreeM one two = false := all_not (zip_at h1 h2) (by simpa [okP] using hb)
      rw [hv, e0]
      rfl
    case g3 =>
      intro hb H3 e3
      refine ⟨_, _, rfl, (e.trans e2).trans e3, ?_⟩
      rw [all_next (zip_at h1 h2), hM]
      simp at hb
      simp [okP]
      omega
  · rintro σ' H' ⟨x, y, rfl, e, hM⟩
    refine' a_ret (K := K) ?g6 ?g7
    case g6 => walk_at "er"
    intro v H4 e4 hv
    refine hk v H4 (e.trans e4) ?_
    rw [← List.length_zip, all_end] at hM
    have e0 : agreeM one two = true := hM
    rw [hv, e0]
    rfl

/-! ### within -/
abbrev s_within : Stmt := topS 5
theorem sc_within : FnScope ["one", "two", "first", "second"] ["one", "two"] (defScope s_within) := ⟨rfl, rfl, rfl, by decide +kernel, rfl, by decide +kernel, by decide +kernel⟩

def okW (p : Nat × Nat) : Bool := p.1 == p.2 || p.1 == 45
def withinM (a b : List Nat) : Bool := (a.zip b).all okW
abbrev sp_within (K : PySem.W.Frag) : Sp := spR K (fun _ : List Nat × List Nat => True) (fun a => [.s (S a.1), .s (S a.2)]) fun a => .b (withinM a.1 a.2)
theorem has_within (T : Txt K mg tD tO) (h : At K mg "within" s_within ["one", "two"]) : Has P w K mg base 1 "within" ["one", "two"] (sp_within K) := by
  refine h.hasR sc_within (fun _ => rfl) fun f cdv A outer s H a vs Q E hr hp hv hk => ?_
  obtain ⟨one, two⟩ := a
  rcases hv with _ | ⟨rfl, _ | ⟨rfl, _ | _⟩⟩
  have sc := sc_within
  refine ⟨_, (pss_cons (ps_for PassesOwn.never rfl (pi_zipS (by rfl) T.b_zip (pa_cons (pv 0) (pa_cons (pv 1) pa_nil))) (pg_tup rfl (pgs_cons (pg_name (i := 2) sc.nd rfl (Or.inl rfl)) (pgs_cons (pg_name (i := 3) sc.nd rfl (Or.inl rfl)) pgs_nil))) (pss_one (ps_if (PW.pt (pw_and (pt_cmpR op_ne (pv 2) (pv 3) (nomark _)) (pw_and1 (pt_cmpR op_ne (pv 2) (pe_glob (v := .str (S [45])) rfl T.g_DASH ⟨_, rfl⟩) (nomark _))))) (pss_one (ps_ret pe_bl)) pss_nil)))
    (pss_one (ps_ret pe_bl))), ?_⟩
  refine c_forZ (K := K) (one := one) (two := two) (by walk_at "era") (fun i σ' H' => ∃ x y, σ' = [some (.str (S one)), some (.str (S two)), x, y] ∧ Ex H H' ∧ ((one.zip two).take i).all okW = true) (fun H1 e => ⟨none, none, rfl, e, rfl⟩) ?_ ?_
  · rintro i c1 c2 σ' H' H2 h1 h2 ⟨x, y, rfl, e, hM⟩ e2
    refine' a_when1 (K := K) ?g1 ?g2 ?g3
    case g1 => walk_at "et"
    case g2 =>
      intro hb H3 e3
      refine' a_rete (K := K) ?g4 ?g5 ((e.trans e2).trans e3) hk
      case g4 => walk_at "er"
      have e0 : withinM one two = false := all_not (zip_at h1 h2) (by simpa [okW] using hb)
      show Dd.b false = Dd.b (withinM one two)
      rw [e0]
    case g3 =>
      intro hb H3 e3
      refine ⟨_, _, rfl, (e.trans e2).trans e3, ?_⟩
      rw [all_next (zip_at h1 h2), hM]
      simp at hb
      simp [okW]
      omega
  · rintro σ' H' ⟨x, y, rfl, e, hM⟩
    refine' a_rete (K := K) ?g6 ?g7 e hk
    case g6 => walk_at "er"
    rw [← List.length_zip, all_end] at hM
    show Dd.b true = Dd.b (withinM one two)
    rw [show withinM one two = true from hM]

end
end Mi

set_option maxHeartbeats 4000000
namespace Mi
open PySem PySem.Spec PyProof.Rows L2 Evl
local macro_rules | `(tactic| walk_at "side") => `(tactic| (first | assumption | omega | exact rfl | decide | (simp only [List.length_cons, List.length_nil, List.length_map, List.length_append, List.length_replicate] <;> omega)))
local macro_rules | `(tactic| walk_at "ro") => `(tactic| (first
  | with_reducible exact ro_I0
  | with_reducible exact ro_1018
  | with_reducible exact ro_neC
  | with_reducible exact ro_eqC
  | with_reducible exact ro_neI
  | with_reducible exact ro_eqI
  | with_reducible exact ro_neB
  | with_reducible exact ro_eqB
  | ((with_reducible apply ro_mod); (walk_at "side"))
  | ((with_reducible apply ro_div) <;> (walk_at "side"))
  | ((with_reducible apply ro_mulL) <;> (walk_at "side"))
  | ((with_reducible apply ro_mulR) <;> (walk_at "side"))
  | ((with_reducible apply ro_addC); (walk_at "side"))
  | ((with_reducible apply ro_ixC) <;> (walk_at "side"))
  | ((with_reducible apply ro_ixI) <;> (walk_at "side"))
  | ((with_reducible apply ro_ixIN) <;> (walk_at "side"))
  | ((with_reducible apply ro_ixT2) <;> (walk_at "side"))
  | ((with_reducible apply ro_ixG) <;> (walk_at "side"))
  | ((with_reducible apply ro_eq); exact rfl)
  | ((with_reducible apply ro_ne); exact rfl)
  | with_reducible exact ro_isN
  | with_reducible exact ro_notN
  | with_reducible exact ro_eqL
  | with_reducible exact ro_neL
  | with_reducible exact ro_eqU
  | ((with_reducible apply ro_cat); (walk_at "side"))
  | with_reducible exact ro_inLi
  | with_reducible exact ro_inNi
  | with_reducible exact ro_inUi
  | ((with_reducible apply ro_inL) <;> (walk_at "side"))
  | ((with_reducible apply ro_inN) <;> (walk_at "side"))
  | ((with_reducible apply ro_inU) <;> (walk_at "side"))))
local macro_rules | `(tactic| walk_at "rc") => `(tactic| (first
  | with_reducible exact rc_int
  | with_reducible exact rc_intB
  | with_reducible exact rc_max2
  | ((with_reducible apply rc_lenC); (walk_at "side"))
  | with_reducible exact rc_lenI
  | with_reducible exact rc_lenT
  | with_reducible exact rc_lenIN
  | with_reducible exact rc_lenTN
  | with_reducible exact rc_lenL
  | with_reducible exact rc_lenN
  | with_reducible exact rc_lenU
  | with_reducible exact rc_listL
  | with_reducible exact rc_listU
  | with_reducible exact rc_tupL
  | with_reducible exact rc_tupN
  | ((with_reducible apply rc_isi_int); decide +kernel)
  | ((with_reducible apply rc_isi_str); decide +kernel)
  | ((with_reducible apply rc_isi_bl); decide +kernel)
  | ((with_reducible apply rc_isi_non); decide +kernel)
  | ((with_reducible apply rc_isi_u); decide +kernel)
  | ((with_reducible apply rc_isi_l); decide +kernel)))
local macro_rules | `(tactic| walk_at "er") => `(tactic| (first
  | ((with_reducible apply er_var); (exact rfl); assumption)
  | ((with_reducible apply er_v); exact rfl)
  | with_reducible exact er_c
  | ((with_reducible apply er_op); (walk_at "er"); (walk_at "er"); (walk_at "ro"))
  | ((with_reducible apply er_cb); (walk_at "era"); (walk_at "rc"))
  | ((with_reducible apply er_lst'); (walk_at "era"); (exact rfl); (walk_at "side"))
  | ((with_reducible apply er_tup'); (walk_at "era"); (exact rfl); (walk_at "side"))
  | ((with_reducible apply er_notV); (walk_at "er"))
  | ((with_reducible apply er_andV); (walk_at "er"); (intro _; (walk_at "er")))
  | ((with_reducible apply er_orV); (walk_at "er"); (intro _; (walk_at "er")))
  | ((with_reducible apply er_ite); (walk_at "et"); (intro _; (walk_at "er")); (intro _; (walk_at "er")))))
local macro_rules | `(tactic| walk_at "era") => `(tactic| (first
  | with_reducible exact era_nil
  | ((with_reducible apply era_cons); (walk_at "er"); (walk_at "era"))))
local macro_rules | `(tactic| walk_at "et") => `(tactic| (first
  | ((with_reducible apply et_an); (walk_at "et"); (intro _; (walk_at "et")))
  | ((with_reducible apply et_orr); (walk_at "et"); (intro _; (walk_at "et")))
  | ((with_reducible apply et_nt); (walk_at "et"))
  | ((with_reducible apply et1); (walk_at "er"))
  | ((with_reducible apply et2); (walk_at "er"))))

section
variable {P : Program} {w : World} {K : PySem.W.Frag} {mg : Str → Option Value} {base : Heap} {tD tO : Tok}
/-! ### press, joined -/
abbrev s_press : Stmt := topS 12
theorem sc_press : FnScope ["one", "two", "below", "above"] ["one", "two"] (defScope s_press) := ⟨rfl, rfl, rfl, by decide +kernel, rfl, by decide +kernel, by decide +kernel⟩

def pressM (a b : List Nat) : List Nat := (a.zip b).map fun p => if p.2 = 45 then p.1 else p.2
theorem pressM_len {a b : List Nat} (h : a.length = b.length) : (pressM a b).length = a.length := by
  unfold pressM
  rw [List.length_map, List.length_zip]
  omega
abbrev sp_press (K : PySem.W.Frag) : Sp := spR K (fun a : List Nat × List Nat => a.1.length ≤ 1000) (fun a => [.s (S a.1), .s (S a.2)]) fun a => .s (S (pressM a.1 a.2))
theorem has_press (T : Txt K mg tD tO) (h : At K mg "press" s_press ["one", "two"]) : Has P w K mg base 1 "press" ["one", "two"] (sp_press K) := by
  refine h.hasR sc_press (fun _ => rfl) fun f cdv A outer s H a vs Q E hr hp hv hk => ?_
  obtain ⟨one, two⟩ := a
  rcases hv with _ | ⟨rfl, _ | ⟨rfl, _ | _⟩⟩
  have sc := sc_press
  have hp' : one.length ≤ 1000 := hp
  refine ⟨_, (pss_one (ps_ret (pe_bm_k (K := K) PySem.F.plainAttrs_str PySem.F.slot_str_join PySem.F.type_str_join (mt_join_k (K := K)) (pe_strS [] (by rfl)) (pa_cons (pe_lc (own := [("below", 2), ("above", 3)]) (g := gTup K 2 (gCons (gName 2) (gCons (gName 3) gNil))) (by rfl) sc.nd (pi_zipS (by rfl) T.b_zip (pa_cons (pv 0) (pa_cons (pv 1) pa_nil))) (blkOk_by (N := ["one", "two", "below", "above"]) (sc := defScope s_press) (own := [("below", 2), ("above", 3)]) (by decide +kernel)) (fun _ _ _ _ _ => (pg_tup rfl (pgs_cons (pg_name (i := 2) sc.nd rfl (Or.inl rfl)) (pgs_cons (pg_name (i := 3) sc.nd rfl (Or.inl rfl)) pgs_nil)))) (fun _ _ _ _ _ => pts_nil) (fun _ _ _ _ _ => (pe_ifExp (pt_cmpR op_eq (pv 3) (pe_glob (v := .str (S [45])) rfl T.g_DASH ⟨_, rfl⟩) (nomark _)) (pv 2) (pv 3)))) pa_nil)))), ?_⟩
  refine' a_rete (K := K) ?g1 rfl (Ex.refl H) hk
  refine er_bm (K := K) (d0 := .s (S [])) (ds := [.n ((pressM one two).map fun c => V.str (S [c]))]) er_c (era_cons (Er.to (c_lcZ' (K := K) (one := one) (two := two) (vs := [2, 3]) (fun p => V.str (S [if p.2 = 45 then p.1 else p.2])) ?g2 (by omega) (fun _ _ => rfl) ?g5) ?g3) era_nil) (rm_joinC ?g4)
  case g2 => walk_at "era"
  case g5 =>
    intro i c1 c2 H1 e h1 h2
    refine' Er.to (K := K) ?g6 ?g7
    case g6 => walk_at "er"
    show Dd.v (if decide ([c2] = [45]) = true then V.str (S [c1]) else V.str (S [c2])) = Dd.v (V.str (S [if c2 = 45 then c1 else c2]))
    by_cases h : c2 = 45 <;> simp [h]
  case g3 => rw [pressM, List.map_map]; rfl
  case g4 =>
    unfold pressM
    rw [List.length_map, List.length_zip]
    omega

abbrev s_joined : Stmt := topS 6
theorem sc_joined : FnScope ["one", "two"] ["one", "two"] (defScope s_joined) := ⟨rfl, rfl, rfl, by decide +kernel, rfl, by decide +kernel, by decide +kernel⟩

abbrev sp_joined (K : PySem.W.Frag) : Sp := spR K (fun a : List Nat × List Nat => a.1.length ≤ 1000) (fun a => [.s (S a.1), .s (S a.2)]) fun a => .v (if agreeM a.1 a.2 = true then .str (S (pressM a.1 a.2)) else .non)
theorem has_joined (T : Txt K mg tD tO) (h : At K mg "joined" s_joined ["one", "two"]) (C_agree : Has P w K mg base 1 "agree" ["one", "two"] (sp_agree K)) (C_press : Has P w K mg base 1 "press" ["one", "two"] (sp_press K)) : Has P w K mg base 2 "joined" ["one", "two"] (sp_joined K) := by
  refine h.hasR sc_joined (fun _ => rfl) fun f cdv A outer s H a vs Q E hr hp hv hk => ?_
  obtain ⟨one, two⟩ := a
  rcases hv with _ | ⟨rfl, _ | ⟨rfl, _ | _⟩⟩
  have sc := sc_joined
  refine ⟨_, (pss_cons (ps_if (pt_not (pt_val (pe_callH C_agree (hr.mono (by decide)) (pa_cons (pv 0) (pa_cons (pv 1) pa_nil))))) (pss_one (ps_ret pe_non)) pss_nil)
    (pss_one (ps_ret (pe_callH C_press (hr.mono (by decide)) (pa_cons (pv 0) (pa_cons (pv 1) pa_nil)))))), ?_⟩
  refine' a_when (K := K) (et_nt (et2 (er_call (one, two) ?g1 rfl trivial))) ?g2 ?g3
  case g1 => walk_at "era"
  case g2 =>
    intro hb H1 e1
    refine' a_rete (K := K) ?g4 ?g5 e1 hk
    case g4 => walk_at "er"
    have hb' : agreeM one two = false := by simpa using hb
    show Dd.v V.non = Dd.v (if agreeM one two = true then _ else _)
    rw [hb']
    rfl
  case g3 =>
    intro hb H1 e1
    refine' a_rete (K := K) (er_call (one, two) ?g6 rfl hp) ?g7 e1 hk
    case g6 => walk_at "era"
    have hb' : agreeM one two = true := by simpa using hb
    show Dd.v _ = Dd.v (if agreeM one two = true then _ else _)
    rw [hb']
    rfl

/-! ### freed, kept_at, cells_of -/
abbrev s_freed : Stmt := topS 7
theorem sc_freed : FnScope ["one", "chosen", "cell", "sign"] ["one", "chosen"] (defScope s_freed) := ⟨rfl, rfl, rfl, by decide +kernel, rfl, by decide +kernel, by decide +kernel⟩

abbrev Chosen (d : Dd) (cs : List Int) : Prop := d = .l (vis cs) ∨ d = .u (vis cs)
def freedM (a : List Nat) (cs : List Int) : List Nat := a.zipIdx.map fun p => if ((p.2 : Nat) : Int) ∈ cs then 45 else p.1
def keptM (a : List Nat) (cs : List Int) : List Nat := a.zipIdx.map fun p => if ((p.2 : Nat) : Int) ∈ cs then p.1 else 45
abbrev sp_freed (K : PySem.W.Frag) : Sp := spR K (fun a : List Nat × Dd × List Int => a.1.length ≤ 1000 ∧ Chosen a.2.1 a.2.2) (fun a => [.s (S a.1), a.2.1]) fun a => .s (S (freedM a.1 a.2.2))
theorem has_freed (T : Txt K mg tD tO) (h : At K mg "freed" s_freed ["one", "chosen"]) : Has P w K mg base 1 "freed" ["one", "chosen"] (sp_freed K) := by
  refine h.hasR sc_freed (fun _ => rfl) fun f cdv A outer s H a vs Q E hr hp hv hk => ?_
  obtain ⟨one, d, cs⟩ := a
  obtain ⟨hl, hd⟩ := hp
  replace hl : one.length ≤ 1000 := hl
  replace hd : Chosen d cs := hd
  rcases hv with _ | ⟨rfl, _ | ⟨hc, _ | _⟩⟩
  have sc := sc_freed
  refine ⟨_, (pss_one (ps_ret (pe_bm_k (K := K) PySem.F.plainAttrs_str PySem.F.slot_str_join PySem.F.type_str_join (mt_join_k (K := K)) (pe_strS [] (by rfl)) (pa_cons (pe_lc (own := [("cell", 2), ("sign", 3)]) (g := gTup K 2 (gCons (gName 2) (gCons (gName 3) gNil))) (by rfl) sc.nd (pi_enumS (by rfl) T.b_enumerate (pa_cons (pv 0) pa_nil)) (blkOk_by (N := ["one", "chosen", "cell", "sign"]) (sc := defScope s_freed) (own := [("cell", 2), ("sign", 3)]) (by decide +kernel)) (fun _ _ _ _ _ => (pg_tup rfl (pgs_cons (pg_name (i := 2) sc.nd rfl (Or.inl rfl)) (pgs_cons (pg_name (i := 3) sc.nd rfl (Or.inl rfl)) pgs_nil)))) (fun _ _ _ _ _ => pts_nil) (fun _ _ _ _ _ => (pe_ifExp (pt_cmpR (op_in_k (K := K)) (pv 2) (pv 1) rfl) (pe_glob (v := .str (S [45])) rfl T.g_DASH ⟨_, rfl⟩) (pv 3)))) pa_nil)))), ?_⟩
  refine' a_rete (K := K) ?g1 rfl (Ex.refl H) hk
  refine er_bm (K := K) (d0 := .s (S [])) (ds := [.n ((freedM one cs).map fun c => V.str (S [c]))]) er_c (era_cons (Er.to (c_lcE' (K := K) (z := one) (vs := [2, 3]) (fun p => V.str (S [if ((p.2 : Nat) : Int) ∈ cs then 45 else p.1])) ?g2 (by omega) (fun _ _ => rfl) ?g5) ?g3) era_nil) (rm_joinC ?g4)
  case g2 => walk_at "era"
  case g5 =>
    intro i c H1 e h1
    replace hc := hc.mono e
    have e2 : (if decide (((i : Nat) : Int) ∈ cs) = true then V.str (S [45]) else V.str (S [c])) = V.str (S [if ((i : Nat) : Int) ∈ cs then 45 else c]) := by
      by_cases h : ((i : Nat) : Int) ∈ cs <;> simp [h]
    rw [show Dd.v (V.str (S [if (((c, i).2 : Nat) : Int) ∈ cs then 45 else (c, i).1])) = Dd.v (if decide (((i : Nat) : Int) ∈ cs) = true then V.str (S [45]) else V.str (S [c])) from congrArg Dd.v e2.symm]
    rcases hd with rfl | rfl
    · walk_at "er"
    · walk_at "er"
  case g3 => rw [freedM, List.map_map]; rfl
  case g4 =>
    unfold freedM
    rw [List.length_map, List.length_zipIdx]
    omega
end
end Mi

set_option maxHeartbeats 4000000
namespace Mi
open PySem PySem.Spec PyProof.Rows L2 Evl
local macro_rules | `(tactic| walk_at "side") => `(tactic| (first | assumption | omega | exact rfl | decide | (simp only [List.length_cons, List.length_nil, List.length_map, List.length_append, List.length_replicate] <;> omega)))
local macro_rules | `(tactic| walk_at "ro") => `(tactic| (first
  | with_reducible exact ro_I0
  | with_reducible exact ro_1018
  | with_reducible exact ro_neC
  | with_reducible exact ro_eqC
  | with_reducible exact ro_neI
  | with_reducible exact ro_eqI
  | with_reducible exact ro_neB
  | with_reducible exact ro_eqB
  | ((with_reducible apply ro_mod); (walk_at "side"))
  | ((with_reducible apply ro_div) <;> (walk_at "side"))
  | ((with_reducible apply ro_mulL) <;> (walk_at "side"))
  | ((with_reducible apply ro_mulR) <;> (walk_at "side"))
  | ((with_reducible apply ro_addC); (walk_at "side"))
  | ((with_reducible apply ro_ixC) <;> (walk_at "side"))
  | ((with_reducible apply ro_ixI) <;> (walk_at "side"))
  | ((with_reducible apply ro_ixIN) <;> (walk_at "side"))
  | ((with_reducible apply ro_ixT2) <;> (walk_at "side"))
  | ((with_reducible apply ro_ixG) <;> (walk_at "side"))
  | ((with_reducible apply ro_eq); exact rfl)
  | ((with_reducible apply ro_ne); exact rfl)
  | with_reducible exact ro_isN
  | with_reducible exact ro_notN
  | with_reducible exact ro_eqL
  | with_reducible exact ro_neL
  | with_reducible exact ro_eqU
  | ((with_reducible apply ro_cat); (walk_at "side"))
  | with_reducible exact ro_inLi
  | with_reducible exact ro_inNi
  | with_reducible exact ro_inUi
  | ((with_reducible apply ro_inL) <;> (walk_at "side"))
  | ((with_reducible apply ro_inN) <;> (walk_at "side"))
  | ((with_reducible apply ro_inU) <;> (walk_at "side"))))
local macro_rules | `(tactic| walk_at "rc") => `(tactic| (first
  | with_reducible exact rc_int
  | with_reducible exact rc_intB
  | with_reducible exact rc_max2
  | ((with_reducible apply rc_lenC); (walk_at "side"))
  | with_reducible exact rc_lenI
  | with_reducible exact rc_lenT
  | with_reducible exact rc_lenIN
  | with_reducible exact rc_lenTN
  | with_reducible exact rc_lenL
  | with_reducible exact rc_lenN
  | with_reducible exact rc_lenU
  | with_reducible exact rc_listL
  | with_reducible exact rc_listU
  | with_reducible exact rc_tupL
  | with_reducible exact rc_tupN
  | ((with_reducible apply rc_isi_int); decide +kernel)
  | ((with_reducible apply rc_isi_str); decide +kernel)
  | ((with_reducible apply rc_isi_bl); decide +kernel)
  | ((with_reducible apply rc_isi_non); decide +kernel)
  | ((with_reducible apply rc_isi_u); decide +kernel)
  | ((with_reducible apply rc_isi_l); decide +kernel)))
local macro_rules | `(tactic| walk_at "er") => `(tactic| (first
  | ((with_reducible apply er_var); (exact rfl); assumption)
  | ((with_reducible apply er_v); exact rfl)
  | with_reducible exact er_c
  | ((with_reducible apply er_op); (walk_at "er"); (walk_at "er"); (walk_at "ro"))
  | ((with_reducible apply er_cb); (walk_at "era"); (walk_at "rc"))
  | ((with_reducible apply er_lst'); (walk_at "era"); (exact rfl); (walk_at "side"))
  | ((with_reducible apply er_tup'); (walk_at "era"); (exact rfl); (walk_at "side"))
  | ((with_reducible apply er_notV); (walk_at "er"))
  | ((with_reducible apply er_andV); (walk_at "er"); (intro _; (walk_at "er")))
  | ((with_reducible apply er_orV); (walk_at "er"); (intro _; (walk_at "er")))
  | ((with_reducible apply er_ite); (walk_at "et"); (intro _; (walk_at "er")); (intro _; (walk_at "er")))))
local macro_rules | `(tactic| walk_at "era") => `(tactic| (first
  | with_reducible exact era_nil
  | ((with_reducible apply era_cons); (walk_at "er"); (walk_at "era"))))
local macro_rules | `(tactic| walk_at "et") => `(tactic| (first
  | ((with_reducible apply et_an); (walk_at "et"); (intro _; (walk_at "et")))
  | ((with_reducible apply et_orr); (walk_at "et"); (intro _; (walk_at "et")))
  | ((with_reducible apply et_nt); (walk_at "et"))
  | ((with_reducible apply et1); (walk_at "er"))
  | ((with_reducible apply et2); (walk_at "er"))))

section
variable {P : Program} {w : World} {K : PySem.W.Frag} {mg : Str → Option Value} {base : Heap} {tD tO : Tok}

abbrev s_kept_at : Stmt := topS 8
theorem sc_kept_at : FnScope ["one", "chosen", "cell", "sign"] ["one", "chosen"] (defScope s_kept_at) := ⟨rfl, rfl, rfl, by decide +kernel, rfl, by decide +kernel, by decide +kernel⟩

abbrev sp_kept (K : PySem.W.Frag) : Sp := spR K (fun a : List Nat × Dd × List Int => a.1.length ≤ 1000 ∧ Chosen a.2.1 a.2.2) (fun a => [.s (S a.1), a.2.1]) fun a => .s (S (keptM a.1 a.2.2))
theorem has_kept_at (T : Txt K mg tD tO) (h : At K mg "kept_at" s_kept_at ["one", "chosen"]) : Has P w K mg base 1 "kept_at" ["one", "chosen"] (sp_kept K) := by
  refine h.hasR sc_kept_at (fun _ => rfl) fun f cdv A outer s H a vs Q E hr hp hv hk => ?_
  obtain ⟨one, d, cs⟩ := a
  obtain ⟨hl, hd⟩ := hp
  replace hl : one.length ≤ 1000 := hl
  replace hd : Chosen d cs := hd
  rcases hv with _ | ⟨rfl, _ | ⟨hc, _ | _⟩⟩
  have sc := sc_kept_at
  refine ⟨_, (pss_one (ps_ret (pe_bm_k (K := K) PySem.F.plainAttrs_str PySem.F.slot_str_join PySem.F.type_str_join (mt_join_k (K := K)) (pe_strS [] (by rfl)) (pa_cons (pe_lc (own := [("cell", 2), ("sign", 3)]) (g := gTup K 2 (gCons (gName 2) (gCons (gName 3) gNil))) (by rfl) sc.nd (pi_enumS (by rfl) T.b_enumerate (pa_cons (pv 0) pa_nil)) (blkOk_by (N := ["one", "chosen", "cell", "sign"]) (sc := defScope s_kept_at) (own := [("cell", 2), ("sign", 3)]) (by decide +kernel)) (fun _ _ _ _ _ => (pg_tup rfl (pgs_cons (pg_name (i := 2) sc.nd rfl (Or.inl rfl)) (pgs_cons (pg_name (i := 3) sc.nd rfl (Or.inl rfl)) pgs_nil)))) (fun _ _ _ _ _ => pts_nil) (fun _ _ _ _ _ => (pe_ifExp (pt_cmpR (op_in_k (K := K)) (pv 2) (pv 1) rfl) (pv 3) (pe_glob (v := .str (S [45])) rfl T.g_DASH ⟨_, rfl⟩)))) pa_nil)))), ?_⟩
  refine' a_rete (K := K) ?g1 rfl (Ex.refl H) hk
  refine er_bm (K := K) (d0 := .s (S [])) (ds := [.n ((keptM one cs).map fun c => V.str (S [c]))]) er_c (era_cons (Er.to (c_lcE' (K := K) (z := one) (vs := [2, 3]) (fun p => V.str (S [if ((p.2 : Nat) : Int) ∈ cs then p.1 else 45])) ?g2 (by omega) (fun _ _ => rfl) ?g5) ?g3) era_nil) (rm_joinC ?g4)
  case g2 => walk_at "era"
  case g5 =>
    intro i c H1 e h1
    replace hc := hc.mono e
    have e2 : (if decide (((i : Nat) : Int) ∈ cs) = true then V.str (S [c]) else V.str (S [45])) = V.str (S [if ((i : Nat) : Int) ∈ cs then c else 45]) := by
      by_cases h : ((i : Nat) : Int) ∈ cs <;> simp [h]
    rw [show Dd.v (V.str (S [if (((c, i).2 : Nat) : Int) ∈ cs then (c, i).1 else 45])) = Dd.v (if decide (((i : Nat) : Int) ∈ cs) = true then V.str (S [c]) else V.str (S [45])) from congrArg Dd.v e2.symm]
    rcases hd with rfl | rfl
    · walk_at "er"
    · walk_at "er"
  case g3 => rw [keptM, List.map_map]; rfl
  case g4 =>
    unfold keptM
    rw [List.length_map, List.length_zipIdx]
    omega

abbrev s_empty_layer : Stmt := topS 9
theorem sc_empty_layer : FnScope ["size"] ["size"] (defScope s_empty_layer) := ⟨rfl, rfl, rfl, by decide +kernel, rfl, by decide +kernel, by decide +kernel⟩

abbrev sp_empty (K : PySem.W.Frag) : Sp := spR K (fun n : Nat => n ≤ 1000) (fun n => [.i (n : Int)]) fun n => .s (S (List.replicate n 45))
theorem has_empty_layer (T : Txt K mg tD tO) (h : At K mg "empty_layer" s_empty_layer ["size"]) : Has P w K mg base 1 "empty_layer" ["size"] (sp_empty K) := by
  refine h.hasR sc_empty_layer (fun _ => rfl) fun f cdv A outer s H n vs Q E hr hp hv hk => ?_
  rcases hv with _ | ⟨rfl, _ | _⟩
  have sc := sc_empty_layer
  refine ⟨_, (pss_one (ps_ret (pe_op op_mulS (pe_glob (v := .str (S [45])) rfl T.g_DASH ⟨_, rfl⟩) (pv 0)))), ?_⟩
  refine' a_rete (K := K) (er_op (K := K) (d1 := .s (S [45])) (d2 := .i (n : Int)) er_c (er_v rfl) (ro_mulC hp (by decide))) ?g1 (Ex.refl H) hk
  show Dd.s (S (List.replicate n [45]).flatten) = Dd.s (S (List.replicate n 45))
  rw [List.flatten_replicate_singleton]

abbrev s_filled : Stmt := topS 10
theorem sc_filled : FnScope ["one"] ["one"] (defScope s_filled) := ⟨rfl, rfl, rfl, by decide +kernel, rfl, by decide +kernel, by decide +kernel⟩

def filledM (a : List Nat) : List Nat := a.map fun x => if x = 45 then 46 else x
abbrev sp_filled (K : PySem.W.Frag) : Sp := spR K (fun a : List Nat => a.length ≤ 1000) (fun a => [.s (S a)]) fun a => .s (S (filledM a))
theorem has_filled (T : Txt K mg tD tO) (h : At K mg "filled" s_filled ["one"]) : Has P w K mg base 1 "filled" ["one"] (sp_filled K) := by
  refine h.hasR sc_filled (fun _ => rfl) fun f cdv A outer s H a vs Q E hr hp hv hk => ?_
  rcases hv with _ | ⟨rfl, _ | _⟩
  have sc := sc_filled
  refine ⟨_, (pss_one (ps_ret (pe_repG (pv 0) T.g_DASH T.g_DOT T.t_DASH T.t_DOT T.t_DASH_DOT (by decide)))), ?_⟩
  refine' a_rete (K := K) (er_repG (K := K) (a := S a) (er_v rfl) (by rw [S_len]; exact hp) (by decide)) ?g1 (Ex.refl H) hk
  rw [replC]
  rfl

abbrev s_layer_order : Stmt := topS 11
theorem sc_layer_order : FnScope ["one"] ["one"] (defScope s_layer_order) := ⟨rfl, rfl, rfl, by decide +kernel, rfl, by decide +kernel, by decide +kernel⟩

abbrev sp_order (K : PySem.W.Frag) : Sp := spR K (fun _ : List Nat => True) (fun a => [.s (S a)]) fun a => .s (S a)
theorem has_layer_order (T : Txt K mg tD tO) (h : At K mg "layer_order" s_layer_order ["one"]) : Has P w K mg base 1 "layer_order" ["one"] (sp_order K) := by
  refine h.hasR sc_layer_order (fun _ => rfl) fun f cdv A outer s H a vs Q E hr hp hv hk => ?_
  rcases hv with _ | ⟨rfl, _ | _⟩
  have sc := sc_layer_order
  refine ⟨_, (pss_one (ps_ret (pv 0))), ?_⟩
  exact a_rete (K := K) (er_v rfl) rfl (Ex.refl H) hk

abbrev s_cells_of : Stmt := topS 3
theorem sc_cells_of : FnScope ["one", "cell", "sign"] ["one"] (defScope s_cells_of) := ⟨rfl, rfl, rfl, by decide +kernel, rfl, by decide +kernel, by decide +kernel⟩

def cellsM (a : List Nat) : List Int := (a.zipIdx.filter fun p => !decide (p.1 = 45)).map fun p => ((p.2 : Nat) : Int)
abbrev sp_cells (K : PySem.W.Frag) : Sp := spR K (fun a : List Nat => a.length ≤ 1000) (fun a => [.s (S a)]) fun a => .u (vis (cellsM a))
theorem has_cells_of (T : Txt K mg tD tO) (h : At K mg "cells_of" s_cells_of ["one"]) : Has P w K mg base 1 "cells_of" ["one"] (sp_cells K) := by
  refine h.hasR sc_cells_of (fun _ => rfl) fun f cdv A outer s H a vs Q E hr hp hv hk => ?_
  rcases hv with _ | ⟨rfl, _ | _⟩
  have sc := sc_cells_of
  replace hp : a.length ≤ 1000 := hp
  refine ⟨_, (pss_one (ps_ret (pe_callTy (cr_tuple_k (K := K)) (by rfl) T.b_tuple (by decide +kernel) (pa_cons (pe_lc (own := [("cell", 1), ("sign", 2)]) (g := gTup K 2 (gCons (gName 1) (gCons (gName 2) gNil))) (by rfl) sc.nd (pi_enumS (by rfl) T.b_enumerate (pa_cons (pv 0) pa_nil)) (blkOk_by (N := ["one", "cell", "sign"]) (sc := defScope s_cells_of) (own := [("cell", 1), ("sign", 2)]) (by decide +kernel)) (fun _ _ _ _ _ => (pg_tup rfl (pgs_cons (pg_name (i := 1) sc.nd rfl (Or.inl rfl)) (pgs_cons (pg_name (i := 2) sc.nd rfl (Or.inl rfl)) pgs_nil)))) (fun _ _ _ _ _ => (pts_one (pt_cmpR op_ne (pv 2) (pe_glob (v := .str (S [45])) rfl T.g_DASH ⟨_, rfl⟩) (nomark _)))) (fun _ _ _ _ _ => (pv 1))) pa_nil)))), ?_⟩
  refine' a_rete (K := K) ?g1 rfl (Ex.refl H) hk
  refine er_cb (K := K) (ds := [.n (vis (cellsM a))]) (era_cons (Er.to (c_lcE (K := K) (z := a) (vs := [1, 2]) (fun p => !decide (p.1 = 45)) (fun p => .int ((p.2 : Nat) : Int)) ?g2 (by omega) (fun _ _ => rfl) ?g3 ?g4) ?g5) era_nil) rc_tupN
  case g2 => walk_at "era"
  case g3 =>
    intro i c H1 e h1
    refine' Et.to (K := K) ?g6 ?g7
    case g6 => walk_at "et"
    simp
  case g4 =>
    intro i c H1 e h1 _
    walk_at "er"
  case g5 => rw [vis, cellsM, List.map_map]; rfl

abbrev s__law_whole : Stmt := topS 14
theorem sc__law_whole : FnScope ["value"] ["value"] (defScope s__law_whole) := ⟨rfl, rfl, rfl, by decide +kernel, rfl, by decide +kernel, by decide +kernel⟩

abbrev sp__law_whole (K : PySem.W.Frag) : Sp := spR K (fun _ : Int => True) (fun a => [.i a]) fun _ => .b true
theorem has__law_whole (T : Txt K mg tD tO) (h : At K mg "_law_whole" s__law_whole ["value"]) : Has P w K mg base 1 "_law_whole" ["value"] (sp__law_whole K) := by
  refine h.hasR sc__law_whole (fun _ => rfl) fun f cdv A outer s H a vs Q E hr hp hv hk => ?_
  rcases hv with _ | ⟨rfl, _ | _⟩
  have sc := sc__law_whole
  refine ⟨_, (pss_one (ps_ret (pe_and (pe_callB (cr_isi_k (K := K)) (by rfl) T.b_isinstance (by decide +kernel) (pa_cons (pv 0) (pa_cons (pe_bltn (v := .ty "int") (by rfl) T.b_int (by decide +kernel) rfl) pa_nil))) (pe_one (pe_not (pe_callB (cr_isi_k (K := K)) (by rfl) T.b_isinstance (by decide +kernel) (pa_cons (pv 0) (pa_cons (pe_bltn (v := .ty "bool") (by rfl) T.b_bool (by decide +kernel) rfl) pa_nil)))))))), ?_⟩
  refine' a_rete (K := K) ?g1 ?g2 (Ex.refl H) hk
  case g1 => refine er_andV (a := true) (b := true) (by walk_at "er") fun _ => er_notV (a := false) (by walk_at "er")
  rfl

abbrev s__law_cell : Stmt := topS 15
theorem sc__law_cell : FnScope ["script", "k", "seed", "cell"] ["script", "k"] (defScope s__law_cell) := ⟨rfl, rfl, rfl, by decide +kernel, rfl, by decide +kernel, by decide +kernel⟩

def seedM (ns : List Int) : Int := ns.foldl (fun s c => (s * 31 + c % 1000003) % 1000003) 17
theorem seedM_next {ns : List Int} {i : Nat} {x : Int} (h : ns[i]? = some x) : seedM (ns.take (i + 1)) = (seedM (ns.take i) * 31 + x % 1000003) % 1000003 := by
  unfold seedM
  rw [List.take_add_one, h, List.foldl_append]
  rfl
theorem seedM_bound (ns : List Int) : 0 ≤ seedM ns ∧ seedM ns < 1000003 := by
  unfold seedM
  suffices h : ∀ (l : List Int) (s : Int), 0 ≤ s ∧ s < 1000003 → 0 ≤ l.foldl (fun s c => (s * 31 + c % 1000003) % 1000003) s ∧ l.foldl (fun s c => (s * 31 + c % 1000003) % 1000003) s < 1000003 from h ns 17 (by omega)
  intro l
  induction l with
  | nil => intro s h; exact h
  | cons c r ih => intro s h; exact ih ((s * 31 + c % 1000003) % 1000003) (by omega)
def cellM (ns : List Int) (k : Nat) : Int := if k < ns.length then ns.getD k 0 else ((seedM ns + 7) * ((k : Int) + 3) * 69621) % 2147483647
abbrev sp__law_cell (K : PySem.W.Frag) : Sp := spR K (fun a : List Int × Nat => a.1.length ≤ 63 ∧ a.2 ≤ 1000) (fun a => [.l (vis a.1), .i (a.2 : Int)]) fun a => .i (cellM a.1 a.2)
theorem has__law_cell (T : Txt K mg tD tO) (h : At K mg "_law_cell" s__law_cell ["script", "k"]) : Has P w K mg base 1 "_law_cell" ["script", "k"] (sp__law_cell K) := by
  refine h.hasR sc__law_cell (fun _ => rfl) fun f cdv A outer s H a vs Q E hr hp hv hk => ?_
  obtain ⟨ns, k⟩ := a
  obtain ⟨hl, hk1⟩ := hp
  replace hl : ns.length ≤ 63 := hl
  replace hk1 : k ≤ 1000 := hk1
  rcases hv with _ | ⟨hs, _ | ⟨rfl, _ | _⟩⟩
  obtain ⟨p, rfl, hS⟩ := hs
  have hs : Is K H (.l (vis ns)) (.ref p) := ⟨p, rfl, hS⟩
  have sc := sc__law_cell
  refine ⟨_, (pss_cons (ps_if (pt_cmpR op_lt (pv 1) (pe_callB (cr_len_k (K := K)) (by rfl) T.b_len (by decide +kernel) (pa_cons (pv 0) pa_nil)) (nomark _)) (pss_one (ps_ret (pe_ix (ix_list_k (K := K)) (pv 0) (pv 1) (fun _ _ => rfl)))) pss_nil)
    (pss_cons (ps_set (i := 2) sc.nd rfl (Or.inl rfl) pe_int)
    (pss_cons (ps_for PassesOwn.never rfl (pi_list_k (K := K) (pv 0)) (pg_name (i := 3) sc.nd rfl (Or.inl rfl)) (pss_one (ps_set (i := 2) sc.nd rfl (Or.inl rfl) (pe_op op_mod (pe_callTy cr_int (by rfl) T.b_int (by decide +kernel) (pa_cons (pe_op op_add (pe_op op_mul (pv 2) pe_int) (pe_op op_mod (pe_callTy cr_int (by rfl) T.b_int (by decide +kernel) (pa_cons (pv 3) pa_nil)) pe_int)) pa_nil)) pe_int))))
    (pss_one (ps_ret (pe_op op_mod (pe_callTy cr_int (by rfl) T.b_int (by decide +kernel) (pa_cons (pe_op op_mul (pe_op op_mul (pe_op op_add (pv 2) pe_int) (pe_op op_add (pv 1) pe_int)) pe_int) pa_nil)) pe_int)))))), ?_⟩
  refine' a_when (K := K) ?g1 ?g2 ?g3
  case g1 => walk_at "et"
  case g2 =>
    intro hb H1 e1
    have hb' : k < ns.length := by simpa using hb
    replace hs := hs.mono e1
    refine' a_rete (K := K) ?g4 ?g5 e1 hk
    case g4 => walk_at "er"
    show Dd.i _ = Dd.i (if k < ns.length then _ else _)
    rw [if_pos hb']
    rfl
  case g3 =>
    intro hb H1 e1
    have hb' : ¬ k < ns.length := by simpa using hb
    refine' a_setv (K := K) ?g6 ?g7
    case g6 => walk_at "er"
    intro H2 e2
    refine b_forA (K := K) (a := p) (xs := vis ns) (er_v rfl) (ex_l (e1.trans e2) hS) (fun i σ' H' => ∃ y, σ' = [some (.ref p), some (.int (k : Int)), some (.int (seedM (ns.take i))), y] ∧ Ex H H') (fun H3 e3 => ⟨none, rfl, (e1.trans e2).trans e3⟩) (fun i σ' H' _ ⟨_, _, e⟩ => ex_l e hS) ?_ ?_
    · rintro i x σ' H' hx ⟨y, rfl, e⟩
      obtain ⟨n, hn, rfl⟩ : ∃ n, ns[i]? = some n ∧ V.int n = x := by
        rw [List.getElem?_map] at hx
        cases q : ns[i]? with
        | none => rw [q] at hx; cases hx
        | some n => rw [q] at hx; exact ⟨n, rfl, Option.some.inj hx⟩
      have hb := seedM_bound (ns.take i)
      refine' a_setv1 (K := K) ?g8 ?g9
      case g8 => walk_at "er"
      intro H4 e4
      refine ⟨some (.int n), ?_, e.trans e4⟩
      rw [seedM_next hn]
      rfl
    · rintro σ' H' ⟨y, rfl, e⟩
      rw [List.length_map, List.take_length]
      have hb := seedM_bound ns
      refine' a_rete (K := K) ?g10 ?g11 e hk
      case g10 => walk_at "er"
      show Dd.i _ = Dd.i (if k < ns.length then _ else _)
      rw [if_neg hb']
end
end Mi

set_option maxHeartbeats 4000000
namespace Mi
open PySem PySem.Spec PyProof.Rows L2 Evl
local macro_rules | `(tactic| walk_at "side") => `(tactic| (first | assumption | omega | exact rfl | decide | (simp only [List.length_cons, List.length_nil, List.length_map, List.length_append, List.length_replicate] <;> omega)))
local macro_rules | `(tactic| walk_at "ro") => `(tactic| (first
  | with_reducible exact ro_I0
  | with_reducible exact ro_1018
  | with_reducible exact ro_neC
  | with_reducible exact ro_eqC
  | with_reducible exact ro_neI
  | with_reducible exact ro_eqI
  | with_reducible exact ro_neB
  | with_reducible exact ro_eqB
  | ((with_reducible apply ro_mod); (walk_at "side"))
  | ((with_reducible apply ro_div) <;> (walk_at "side"))
  | ((with_reducible apply ro_mulL) <;> (walk_at "side"))
  | ((with_reducible apply ro_mulR) <;> (walk_at "side"))
  | ((with_reducible apply ro_addC); (walk_at "side"))
  | ((with_reducible apply ro_ixC) <;> (walk_at "side"))
  | ((with_reducible apply ro_ixI) <;> (walk_at "side"))
  | ((with_reducible apply ro_ixIN) <;> (walk_at "side"))
  | ((with_reducible apply ro_ixT2) <;> (walk_at "side"))
  | ((with_reducible apply ro_ixG) <;> (walk_at "side"))
  | ((with_reducible apply ro_eq); exact rfl)
  | ((with_reducible apply ro_ne); exact rfl)
  | with_reducible exact ro_isN
  | with_reducible exact ro_notN
  | with_reducible exact ro_eqL
  | with_reducible exact ro_neL
  | with_reducible exact ro_eqU
  | ((with_reducible apply ro_cat); (walk_at "side"))
  | with_reducible exact ro_inLi
  | with_reducible exact ro_inNi
  | with_reducible exact ro_inUi
  | ((with_reducible apply ro_inL) <;> (walk_at "side"))
  | ((with_reducible apply ro_inN) <;> (walk_at "side"))
  | ((with_reducible apply ro_inU) <;> (walk_at "side"))))
local macro_rules | `(tactic| walk_at "rc") => `(tactic| (first
  | with_reducible exact rc_int
  | with_reducible exact rc_intB
  | with_reducible exact rc_max2
  | ((with_reducible apply rc_lenC); (walk_at "side"))
  | with_reducible exact rc_lenI
  | with_reducible exact rc_lenT
  | with_reducible exact rc_lenIN
  | with_reducible exact rc_lenTN
  | with_reducible exact rc_lenL
  | with_reducible exact rc_lenN
  | with_reducible exact rc_lenU
  | with_reducible exact rc_listL
  | with_reducible exact rc_listU
  | with_reducible exact rc_tupL
  | with_reducible exact rc_tupN
  | ((with_reducible apply rc_isi_int); decide +kernel)
  | ((with_reducible apply rc_isi_str); decide +kernel)
  | ((with_reducible apply rc_isi_bl); decide +kernel)
  | ((with_reducible apply rc_isi_non); decide +kernel)
  | ((with_reducible apply rc_isi_u); decide +kernel)
  | ((with_reducible apply rc_isi_l); decide +kernel)))
local macro_rules | `(tactic| walk_at "er") => `(tactic| (first
  | ((with_reducible apply er_var); (exact rfl); assumption)
  | ((with_reducible apply er_v); exact rfl)
  | with_reducible exact er_c
  | ((with_reducible apply er_op); (walk_at "er"); (walk_at "er"); (walk_at "ro"))
  | ((with_reducible apply er_cb); (walk_at "era"); (walk_at "rc"))
  | ((with_reducible apply er_lst'); (walk_at "era"); (exact rfl); (walk_at "side"))
  | ((with_reducible apply er_tup'); (walk_at "era"); (exact rfl); (walk_at "side"))
  | ((with_reducible apply er_notV); (walk_at "er"))
  | ((with_reducible apply er_andV); (walk_at "er"); (intro _; (walk_at "er")))
  | ((with_reducible apply er_orV); (walk_at "er"); (intro _; (walk_at "er")))
  | ((with_reducible apply er_ite); (walk_at "et"); (intro _; (walk_at "er")); (intro _; (walk_at "er")))))
local macro_rules | `(tactic| walk_at "era") => `(tactic| (first
  | with_reducible exact era_nil
  | ((with_reducible apply era_cons); (walk_at "er"); (walk_at "era"))))
local macro_rules | `(tactic| walk_at "et") => `(tactic| (first
  | ((with_reducible apply et_an); (walk_at "et"); (intro _; (walk_at "et")))
  | ((with_reducible apply et_orr); (walk_at "et"); (intro _; (walk_at "et")))
  | ((with_reducible apply et_nt); (walk_at "et"))
  | ((with_reducible apply et1); (walk_at "er"))
  | ((with_reducible apply et2); (walk_at "er"))))

section
variable {P : Program} {w : World} {K : PySem.W.Frag} {mg : Str → Option Value} {base : Heap} {tD tO : Tok}

abbrev s__law_draw : Stmt := topS 16
theorem sc__law_draw : FnScope ["script", "k", "sizes", "out", "rest", "base", "seed", "spot", "twice"] ["script", "k", "sizes"] (defScope s__law_draw) := ⟨rfl, rfl, rfl, by decide +kernel, rfl, by decide +kernel, by decide +kernel⟩

def rsM (x : Int) (sizes : List Int) (j : Nat) : Int := (sizes.take j).foldl (fun a b => a / b) x
theorem rsM_next {x b : Int} {sizes : List Int} {j : Nat} (h : sizes[j]? = some b) : rsM x sizes (j + 1) = rsM x sizes j / b := by
  unfold rsM
  rw [List.take_add_one, h, List.foldl_append]
  rfl
def sdM (s0 : Int) : Nat → Int
  | 0 => s0
  | i + 1 => (sdM s0 i * 48271 + 974711 * (i : Int) + 12345) % 2147483647
def twM (s : Int) : Int := (s * (s / 65537 + 3)) % 2147483629
def draw1 (x : Int) (sizes : List Int) : List Int := sizes.zipIdx.map fun p => rsM x sizes p.2 % p.1
def draw2 (s0 : Int) (sizes : List Int) : List Int := sizes.zipIdx.map fun p => twM (sdM s0 (p.2 + 1)) / 19 % p.1
def drawM (ns : List Int) (k : Nat) (sizes : List Int) : List Int :=
  if 1000000000000000000 ≤ cellM ns k then draw1 (cellM ns k - 1000000000000000000) sizes else draw2 ((cellM ns k + 7919 * (k : Int)) % 2147483629) sizes
theorem drawM_len (ns : List Int) (k : Nat) (sizes : List Int) : (drawM ns k sizes).length = sizes.length := by
  unfold drawM draw1 draw2
  split <;> simp
theorem drawM_bd {ns : List Int} {k : Nat} {sizes : List Int} (hs : ∀ s ∈ sizes, 0 < s) {i : Nat} (h : i < sizes.length) : 0 ≤ (drawM ns k sizes).getD i 0 ∧ (drawM ns k sizes).getD i 0 < sizes.getD i 0 := by
  have hb : 0 < sizes[i] := hs _ (List.getElem_mem h)
  have e : sizes[i]? = some sizes[i] := List.getElem?_eq_getElem h
  rw [List.getD_eq_getElem?_getD, List.getD_eq_getElem?_getD, e]
  unfold drawM
  split
  · unfold draw1
    rw [List.getElem?_map, zipIdx_at e]
    exact ⟨Int.emod_nonneg _ (by omega), Int.emod_lt_of_pos _ hb⟩
  · unfold draw2
    rw [List.getElem?_map, zipIdx_at e]
    exact ⟨Int.emod_nonneg _ (by omega), Int.emod_lt_of_pos _ hb⟩
abbrev sp__law_draw (K : PySem.W.Frag) : Sp := spR K (fun a : List Int × Nat × List Int => a.1.length ≤ 63 ∧ a.2.1 ≤ 1000 ∧ a.2.2.length ≤ 1000 ∧ ∀ s ∈ a.2.2, 0 < s ∧ s < 1000000) (fun a => [.l (vis a.1), .i (a.2.1 : Int), .l (vis a.2.2)]) fun a => .n (vis (drawM a.1 a.2.1 a.2.2))
theorem has__law_draw (T : Txt K mg tD tO) (h : At K mg "_law_draw" s__law_draw ["script", "k", "sizes"]) (C__law_cell : Has P w K mg base 1 "_law_cell" ["script", "k"] (sp__law_cell K)) : Has P w K mg base 2 "_law_draw" ["script", "k", "sizes"] (sp__law_draw K) := by
  refine h.hasR sc__law_draw (fun _ => rfl) fun f cdv A outer s H a vs Q E hr hp hv hk => ?_
  obtain ⟨ns, k, sizes⟩ := a
  obtain ⟨hl, hk1, hz, hpos⟩ := hp
  replace hl : ns.length ≤ 63 := hl
  replace hk1 : k ≤ 1000 := hk1
  replace hz : sizes.length ≤ 1000 := hz
  replace hpos : ∀ s ∈ sizes, 0 < s ∧ s < 1000000 := hpos
  rcases hv with _ | ⟨⟨p, rfl, hS⟩, _ | ⟨rfl, _ | ⟨⟨pz, rfl, hZ⟩, _ | _⟩⟩⟩
  have hs : Is K H (.l (vis ns)) (.ref p) := ⟨p, rfl, hS⟩
  have hzz : Is K H (.l (vis sizes)) (.ref pz) := ⟨pz, rfl, hZ⟩
  have sc := sc__law_draw
  refine ⟨_, (pss_cons (ps_set (i := 3) sc.nd rfl (Or.inl rfl) (pe_lst pa_nil))
    (pss_cons (ps_set (i := 4) sc.nd rfl (Or.inl rfl) (pe_callTy cr_int (by rfl) T.b_int (by decide +kernel) (pa_cons (pe_callH C__law_cell (hr.mono (by decide)) (pa_cons (pv 0) (pa_cons (pv 1) pa_nil))) pa_nil)))
    (pss_cons (ps_if (pt_cmpR op_ge (pv 4) (pe_op op_pow pe_int pe_int) (nomark _)) (pss_cons (ps_set (i := 4) sc.nd rfl (Or.inl rfl) (pe_op op_sub (pv 4) (pe_op op_pow pe_int pe_int)))
    (pss_cons (ps_for PassesOwn.never rfl (pi_list_k (K := K) (pv 2)) (pg_name (i := 5) sc.nd rfl (Or.inl rfl)) (pss_cons (ps_expr (pe_bm_k (K := K) PySem.F.plainAttrs_list PySem.F.slot_list_append PySem.F.type_list_append mt_append (pv 3) (pa_cons (pe_op op_mod (pe_callTy cr_int (by rfl) T.b_int (by decide +kernel) (pa_cons (pv 4) pa_nil)) (pv 5)) pa_nil)))
    (pss_one (ps_set (i := 4) sc.nd rfl (Or.inl rfl) (pe_op op_fdiv (pe_callTy cr_int (by rfl) T.b_int (by decide +kernel) (pa_cons (pv 4) pa_nil)) (pv 5))))))
    (pss_one (ps_ret (pv 3))))) pss_nil)
    (pss_cons (ps_set (i := 6) sc.nd rfl (Or.inl rfl) (pe_op op_mod (pe_callTy cr_int (by rfl) T.b_int (by decide +kernel) (pa_cons (pe_op op_add (pv 4) (pe_op op_mul pe_int (pv 1))) pa_nil)) pe_int))
    (pss_cons (ps_for PassesOwn.never rfl (pi_range1 (by rfl) T.b_range (pa_cons (pe_callB (cr_len_k (K := K)) (by rfl) T.b_len (by decide +kernel) (pa_cons (pv 2) pa_nil)) pa_nil)) (pg_name (i := 7) sc.nd rfl (Or.inl rfl)) (pss_cons (ps_set (i := 6) sc.nd rfl (Or.inl rfl) (pe_op op_mod (pe_callTy cr_int (by rfl) T.b_int (by decide +kernel) (pa_cons (pe_op op_add (pe_op op_add (pe_op op_mul (pv 6) pe_int) (pe_op op_mul pe_int (pv 7))) pe_int) pa_nil)) pe_int))
    (pss_cons (ps_set (i := 8) sc.nd rfl (Or.inl rfl) (pe_op op_mod (pe_callTy cr_int (by rfl) T.b_int (by decide +kernel) (pa_cons (pe_op op_mul (pv 6) (pe_op op_add (pe_op op_fdiv (pv 6) pe_int) pe_int)) pa_nil)) pe_int))
    (pss_one (ps_expr (pe_bm_k (K := K) PySem.F.plainAttrs_list PySem.F.slot_list_append PySem.F.type_list_append mt_append (pv 3) (pa_cons (pe_op op_mod (pe_op op_fdiv (pv 8) pe_int) (pe_ix (ix_list_k (K := K)) (pv 2) (pv 7) (fun _ _ => rfl))) pa_nil)))))))
    (pss_one (ps_ret (pv 3)))))))), ?_⟩
  refine a_new fun o H1 ho e1 h1 => ?_
  replace hs := hs.mono e1
  refine' a_setv (K := K) (er_cb (K := K) (era_cons (er_call (K := K) (ns, k) ?g1 rfl ⟨hl, hk1⟩) era_nil) rc_int) ?g2
  case g1 => walk_at "era"
  intro H2 e2
  have h2 := e2 o _ h1
  refine' a_when (K := K) ?g3 ?g4 ?g5
  case g3 => walk_at "et"
  case g4 =>
    intro hb H3 e3
    have hb' : 1000000000000000000 ≤ cellM ns k := by simpa using hb
    refine' a_setv (K := K) ?g6 ?g7
    case g6 => walk_at "er"
    intro H4 e4
    have h4 := e4 o _ (e3 o _ h2)
    have E4 : Ex H H4 := ((e1.trans e2).trans e3).trans e4
    refine b_forA (K := K) (a := pz) (xs := vis sizes) (er_v rfl) (ex_l E4 hZ) (fun i σ' H' => ∃ y, σ' = [some (.ref p), some (.int (k : Int)), some (.ref pz), some (.ref o), some (.int (rsM (cellM ns k - 1000000000000000000) sizes i)), y, none, none, none] ∧ Ex H H' ∧ H' o = some (.lst (vis ((sizes.zipIdx.take i).map fun p => rsM (cellM ns k - 1000000000000000000) sizes p.2 % p.1)))) (fun H5 e5 => ⟨none, rfl, E4.trans e5, e5 o _ h4⟩) (fun i σ' H' _ ⟨_, _, e, _⟩ => ex_l e hZ) ?_ ?_
    · rintro i x σ' H' hx ⟨y, rfl, e, hO⟩
      obtain ⟨n, hn, rfl⟩ := vis_at hx
      have hn2 := hpos n (List.mem_of_getElem? hn)
      have hn3 : 0 < n := hn2.1
      have hi : i < sizes.length := (List.getElem?_eq_some_iff.mp hn).1
      refine' b_app (K := K) hO (er_v rfl) ?g8 (by rw [List.length_map, List.length_map, List.length_take]; omega) ?g9
      case g8 => walk_at "er"
      intro H5 e5
      have E5 : Ex H (upd H5 o (.lst (vis ((sizes.zipIdx.take i).map fun p => rsM (cellM ns k - 1000000000000000000) sizes p.2 % p.1) ++ [.int (rsM (cellM ns k - 1000000000000000000) sizes i % n)]))) := Ex.mut (e.trans e5) ho
      refine' a_setv1 (K := K) ?g10 ?g11
      case g10 => walk_at "er"
      intro H6 e6
      refine ⟨some (.int n), ?_, E5.trans e6, ?_⟩
      · rw [rsM_next hn]
        rfl
      · rw [e6 o _ upd_same, map_take_next (zipIdx_at hn), vis_app]
    · rintro σ' H' ⟨y, rfl, e, hO⟩
      refine a_rete (K := K) (er_var (K := K) (d := .n (vis (drawM ns k sizes))) rfl ⟨o, rfl, ?_⟩) rfl e hk
      rw [hO, List.length_map, List.take_of_length_le (by rw [List.length_zipIdx]; exact Nat.le_refl _)]
      unfold drawM
      rw [if_pos hb']
      rfl
  case g5 =>
    intro hb H3 e3
    have hb' : ¬ 1000000000000000000 ≤ cellM ns k := by simpa using hb
    refine' a_setv (K := K) ?g12 ?g13
    case g12 => walk_at "er"
    intro H4 e4
    have h4 := e4 o _ (e3 o _ h2)
    have E4 : Ex H H4 := ((e1.trans e2).trans e3).trans e4
    have hz4 := hzz.mono E4
    refine b_forR1 (K := K) (n := sizes.length) ?_ (by omega) (fun i σ' H' => ∃ y1 y2, σ' = [some (.ref p), some (.int (k : Int)), some (.ref pz), some (.ref o), some (.int (cellM ns k)), none, some (.int (sdM ((cellM ns k + 7919 * (k : Int)) % 2147483629) i)), y1, y2] ∧ Ex H H' ∧ H' o = some (.lst (vis ((sizes.zipIdx.take i).map fun p => twM (sdM ((cellM ns k + 7919 * (k : Int)) % 2147483629) (p.2 + 1)) / 19 % p.1)))) (fun H5 e5 => ⟨none, none, rfl, E4.trans e5, e5 o _ h4⟩) ?_ ?_
    · walk_at "era"
    · rintro i σ' H' hi ⟨y1, y2, rfl, e, hO⟩
      have hn : sizes[i]? = some sizes[i] := List.getElem?_eq_getElem hi
      have hn2 := hpos sizes[i] (List.getElem_mem hi)
      have hg : sizes.getD i 0 = sizes[i] := by rw [List.getD_eq_getElem?_getD, hn]; rfl
      have hn3 : 0 < sizes.getD ((i : Nat) : Int).toNat 0 := by rw [Int.toNat_natCast, hg]; exact hn2.1
      have hzi := hzz.mono e
      generalize hsd : sdM ((cellM ns k + 7919 * (k : Int)) % 2147483629) i = sd
      refine' a_setv (K := K) ?g14 ?g15
      case g14 => walk_at "er"
      intro H5 e5
      have hsd1 : sdM ((cellM ns k + 7919 * (k : Int)) % 2147483629) (i + 1) = (sd * 48271 + 974711 * (i : Int) + 12345) % 2147483647 := by rw [← hsd]; rfl
      have hb1 : 0 ≤ (sd * 48271 + 974711 * (i : Int) + 12345) % 2147483647 := Int.emod_nonneg _ (by decide)
      have hb2 : (sd * 48271 + 974711 * (i : Int) + 12345) % 2147483647 < 2147483647 := Int.emod_lt_of_pos _ (by decide)
      generalize hsd2 : (sd * 48271 + 974711 * (i : Int) + 12345) % 2147483647 = sd2 at hsd1 hb1 hb2
      refine' a_setv (K := K) ?g16 ?g17
      case g16 => walk_at "er"
      intro H6 e6
      replace hzi := (hzi.mono e5).mono e6
      refine' a_app (K := K) (e6 o _ (e5 o _ hO)) (er_v rfl) ?g18 (by rw [List.length_map, List.length_map, List.length_take]; omega) ?g19
      case g18 => walk_at "er"
      intro H7 e7
      refine ⟨some (.int i), some (.int (twM sd2)), ?_, Ex.mut (((e.trans e5).trans e6).trans e7) ho, ?_⟩
      · rw [hsd1]
        rfl
      · rw [upd_same, map_take_next (zipIdx_at hn), vis_app, hsd1, Int.toNat_natCast, hg]
        rfl
    · rintro σ' H' ⟨y1, y2, rfl, e, hO⟩
      refine a_rete (K := K) (er_var (K := K) (d := .n (vis (drawM ns k sizes))) rfl ⟨o, rfl, ?_⟩) rfl e hk
      rw [hO, List.take_of_length_le (by rw [List.length_zipIdx]; exact Nat.le_refl _)]
      unfold drawM
      rw [if_neg hb']
      rfl
end
end Mi

set_option maxHeartbeats 4000000
namespace Mi
open PySem PySem.Spec PyProof.Rows L2 Evl
local macro_rules | `(tactic| walk_at "side") => `(tactic| (first | assumption | omega | exact rfl | decide | (simp only [List.length_cons, List.length_nil, List.length_map, List.length_append, List.length_replicate] <;> omega)))
local macro_rules | `(tactic| walk_at "ro") => `(tactic| (first
  | with_reducible exact ro_I0
  | with_reducible exact ro_1018
  | with_reducible exact ro_neC
  | with_reducible exact ro_eqC
  | with_reducible exact ro_neI
  | with_reducible exact ro_eqI
  | with_reducible exact ro_neB
  | with_reducible exact ro_eqB
  | ((with_reducible apply ro_mod); (walk_at "side"))
  | ((with_reducible apply ro_div) <;> (walk_at "side"))
  | ((with_reducible apply ro_mulL) <;> (walk_at "side"))
  | ((with_reducible apply ro_mulR) <;> (walk_at "side"))
  | ((with_reducible apply ro_addC); (walk_at "side"))
  | ((with_reducible apply ro_ixC) <;> (walk_at "side"))
  | ((with_reducible apply ro_ixI) <;> (walk_at "side"))
  | ((with_reducible apply ro_ixIN) <;> (walk_at "side"))
  | ((with_reducible apply ro_ixT2) <;> (walk_at "side"))
  | ((with_reducible apply ro_ixG) <;> (walk_at "side"))
  | ((with_reducible apply ro_eq); exact rfl)
  | ((with_reducible apply ro_ne); exact rfl)
  | with_reducible exact ro_isN
  | with_reducible exact ro_notN
  | with_reducible exact ro_eqL
  | with_reducible exact ro_neL
  | with_reducible exact ro_eqU
  | ((with_reducible apply ro_cat); (walk_at "side"))
  | with_reducible exact ro_inLi
  | with_reducible exact ro_inNi
  | with_reducible exact ro_inUi
  | ((with_reducible apply ro_inL) <;> (walk_at "side"))
  | ((with_reducible apply ro_inN) <;> (walk_at "side"))
  | ((with_reducible apply ro_inU) <;> (walk_at "side"))))
local macro_rules | `(tactic| walk_at "rc") => `(tactic| (first
  | with_reducible exact rc_int
  | with_reducible exact rc_intB
  | with_reducible exact rc_max2
  | ((with_reducible apply rc_lenC); (walk_at "side"))
  | with_reducible exact rc_lenI
  | with_reducible exact rc_lenT
  | with_reducible exact rc_lenIN
  | with_reducible exact rc_lenTN
  | with_reducible exact rc_lenL
  | with_reducible exact rc_lenN
  | with_reducible exact rc_lenU
  | with_reducible exact rc_listL
  | with_reducible exact rc_listU
  | with_reducible exact rc_tupL
  | with_reducible exact rc_tupN
  | ((with_reducible apply rc_isi_int); decide +kernel)
  | ((with_reducible apply rc_isi_str); decide +kernel)
  | ((with_reducible apply rc_isi_bl); decide +kernel)
  | ((with_reducible apply rc_isi_non); decide +kernel)
  | ((with_reducible apply rc_isi_u); decide +kernel)
  | ((with_reducible apply rc_isi_l); decide +kernel)))
local macro_rules | `(tactic| walk_at "er") => `(tactic| (first
  | ((with_reducible apply er_var); (exact rfl); assumption)
  | ((with_reducible apply er_v); exact rfl)
  | with_reducible exact er_c
  | ((with_reducible apply er_pick); (walk_at "er"); (walk_at "er"); (walk_at "er"))
  | ((with_reducible apply er_op); (walk_at "er"); (walk_at "er"); (walk_at "ro"))
  | ((with_reducible apply er_cb); (walk_at "era"); (walk_at "rc"))
  | ((with_reducible apply er_lst'); (walk_at "era"); (exact rfl); (walk_at "side"))
  | ((with_reducible apply er_tup'); (walk_at "era"); (exact rfl); (walk_at "side"))
  | ((with_reducible apply er_notV); (walk_at "er"))
  | ((with_reducible apply er_andV); (walk_at "er"); (intro _; (walk_at "er")))
  | ((with_reducible apply er_orV); (walk_at "er"); (intro _; (walk_at "er")))
  | ((with_reducible apply er_ite); (walk_at "et"); (intro _; (walk_at "er")); (intro _; (walk_at "er")))))
local macro_rules | `(tactic| walk_at "era") => `(tactic| (first
  | with_reducible exact era_nil
  | ((with_reducible apply era_cons); (walk_at "er"); (walk_at "era"))))
local macro_rules | `(tactic| walk_at "et") => `(tactic| (first
  | ((with_reducible apply et_an); (walk_at "et"); (intro _; (walk_at "et")))
  | ((with_reducible apply et_orr); (walk_at "et"); (intro _; (walk_at "et")))
  | ((with_reducible apply et_nt); (walk_at "et"))
  | ((with_reducible apply et1); (walk_at "er"))
  | ((with_reducible apply et2); (walk_at "er"))))

section
variable {P : Program} {w : World} {K : PySem.W.Frag} {mg : Str → Option Value} {base : Heap} {tD tO : Tok}

abbrev s__law_size : Stmt := topS 17
theorem sc__law_size : FnScope ["digit"] ["digit"] (defScope s__law_size) := ⟨rfl, rfl, rfl, by decide +kernel, rfl, by decide +kernel, by decide +kernel⟩

def sizeM (d : Int) : Int := if d < 30 then d + 1 else [1, 2, 3, 4, 5, 6, 7, 8, 4, 30].getD ((d - 30) % 10).toNat 0
theorem sizeM_bd {d : Int} (h0 : 0 ≤ d) (h1 : d < 40) : 1 ≤ sizeM d ∧ sizeM d ≤ 30 := by
  obtain ⟨n, rfl⟩ : ∃ n : Nat, d = (n : Int) := ⟨d.toNat, by omega⟩
  have h : n < 40 := by omega
  revert h
  clear h0 h1
  revert n
  decide
abbrev sp__law_size (K : PySem.W.Frag) : Sp := spR K (fun d : Int => 0 ≤ d ∧ d < 40) (fun d => [.i d]) fun d => .i (sizeM d)
theorem has__law_size (T : Txt K mg tD tO) (h : At K mg "_law_size" s__law_size ["digit"]) : Has P w K mg base 1 "_law_size" ["digit"] (sp__law_size K) := by
  refine h.hasR sc__law_size (fun _ => rfl) fun f cdv A outer s H d vs Q E hr hp hv hk => ?_
  obtain ⟨hp0, hp1⟩ := hp
  rcases hv with _ | ⟨rfl, _ | _⟩
  have sc := sc__law_size
  refine ⟨_, (pss_cons (ps_if (pt_cmpR op_lt (pv 0) pe_int (nomark _)) (pss_one (ps_ret (pe_op op_add (pv 0) pe_int))) pss_nil)
    (pss_one (ps_ret (pe_ix (ix_list_k (K := K)) (pe_lst (pa_cons pe_int (pa_cons pe_int (pa_cons pe_int (pa_cons pe_int (pa_cons pe_int (pa_cons pe_int (pa_cons pe_int (pa_cons pe_int (pa_cons pe_int (pa_cons pe_int pa_nil))))))))))) (pe_op op_mod (pe_callTy cr_int (by rfl) T.b_int (by decide +kernel) (pa_cons (pe_op op_sub (pv 0) pe_int) pa_nil)) pe_int) (fun _ _ => rfl))))), ?_⟩
  refine' a_when (K := K) ?g1 ?g2 ?g3
  case g1 => walk_at "et"
  case g2 =>
    intro hb H1 e1
    have hb' : d < 30 := by simpa using hb
    refine' a_rete (K := K) ?g4 ?g5 e1 hk
    case g4 => walk_at "er"
    show Dd.i _ = Dd.i (sizeM d)
    unfold sizeM
    rw [if_pos hb']
  case g3 =>
    intro hb H1 e1
    have hb' : ¬ d < 30 := by simpa using hb
    have h0 : 0 ≤ (d - 30) % 10 := Int.emod_nonneg _ (by decide)
    have h1 : (d - 30) % 10 < 10 := Int.emod_lt_of_pos _ (by decide)
    refine' a_rete (K := K) ?g6 ?g7 e1 hk
    case g6 => walk_at "er"
    show Dd.v ((vis [1, 2, 3, 4, 5, 6, 7, 8, 4, 30]).getD ((d - 30) % 10).toNat .non) = Dd.i (sizeM d)
    rw [getD_vis (by show _ < 10; omega)]
    unfold sizeM
    rw [if_neg hb']

def alls : List Nat := [46, 97, 98, 99, 100, 101, 102, 103, 104, 105, 106, 107, 108, 109, 110, 111, 112, 113, 114, 115, 116, 117, 118, 119, 120, 121, 122]
def signs : List Nat := 45 :: alls
abbrev s__law_inks : Stmt := topS 18
theorem sc__law_inks : FnScope ["spots", "alls", "first", "second", "third"] ["spots"] (defScope s__law_inks) := ⟨rfl, rfl, rfl, by decide +kernel, rfl, by decide +kernel, by decide +kernel⟩

def ink2 (f n : Int) : Int := (f + 1 + n) % 27
def ink3 (f m n : Int) : Int := if (f + 1 + n) % 27 = ink2 f m then (f + 26) % 27 else (f + 1 + n) % 27
def inkF (sp : List Int) : Int := sp.getD 2 0 * (if sp.getD 1 0 < 2 then 1 else 0)
def inksM (sp : List Int) : List Nat :=
  if sp.getD 0 0 = 0 then alls
  else [alls.getD (inkF sp).toNat 0, alls.getD (ink2 (inkF sp) (sp.getD 3 0)).toNat 0, alls.getD (ink3 (inkF sp) (sp.getD 3 0) (sp.getD 4 0)).toNat 0].take ([3, 3, 3, 2].getD (sp.getD 0 0).toNat 0)
def InkOk (sp : List Int) : Prop := 5 ≤ sp.length ∧ sp.length ≤ 1000 ∧ (0 ≤ sp.getD 0 0 ∧ sp.getD 0 0 < 4) ∧ (0 ≤ sp.getD 2 0 ∧ sp.getD 2 0 < 27)
theorem inkF_bd {sp : List Int} (h : InkOk sp) : 0 ≤ inkF sp ∧ inkF sp < 27 := by
  obtain ⟨_, _, _, h1, h2⟩ := h
  unfold inkF
  split <;> omega
abbrev sp__law_inks (K : PySem.W.Frag) : Sp := spR K (fun sp : List Int => InkOk sp) (fun sp => [.l (vis sp)]) fun sp => .s (S (inksM sp))
theorem has__law_inks (T : Txt K mg tD tO) (h : At K mg "_law_inks" s__law_inks ["spots"]) : Has P w K mg base 1 "_law_inks" ["spots"] (sp__law_inks K) := by
  refine h.hasR sc__law_inks (fun _ => rfl) fun f cdv A outer s H sp vs Q E hr hp hv hk => ?_
  have hF := inkF_bd hp
  obtain ⟨hl, hl2, h00, h22⟩ := hp
  rcases hv with _ | ⟨⟨p, rfl, hS⟩, _ | _⟩
  have hs : Is K H (.l (vis sp)) (.ref p) := ⟨p, rfl, hS⟩
  have sc := sc__law_inks
  refine ⟨_, (pss_cons (ps_set (i := 1) sc.nd rfl (Or.inl rfl) (pe_strS [46, 97, 98, 99, 100, 101, 102, 103, 104, 105, 106, 107, 108, 109, 110, 111, 112, 113, 114, 115, 116, 117, 118, 119, 120, 121, 122] (by rfl)))
    (pss_cons (ps_if (pt_cmpR op_eq (pe_ix (ix_list_k (K := K)) (pv 0) pe_int (fun _ _ => rfl)) pe_int (nomark _)) (pss_one (ps_ret (pv 1))) pss_nil)
    (pss_cons (ps_set (i := 2) sc.nd rfl (Or.inl rfl) (pe_op op_mul (pe_callTy cr_int (by rfl) T.b_int (by decide +kernel) (pa_cons (pe_ix (ix_list_k (K := K)) (pv 0) pe_int (fun _ _ => rfl)) pa_nil)) (pe_callTy cr_int (by rfl) T.b_int (by decide +kernel) (pa_cons (pe_cmpR op_lt (pe_ix (ix_list_k (K := K)) (pv 0) pe_int (fun _ _ => rfl)) pe_int (nomark _)) pa_nil))))
    (pss_cons (ps_set (i := 3) sc.nd rfl (Or.inl rfl) (pe_op op_mod (pe_op op_add (pe_op op_add (pv 2) pe_int) (pe_callTy cr_int (by rfl) T.b_int (by decide +kernel) (pa_cons (pe_ix (ix_list_k (K := K)) (pv 0) pe_int (fun _ _ => rfl)) pa_nil))) pe_int))
    (pss_cons (ps_set (i := 4) sc.nd rfl (Or.inl rfl) (pe_op op_mod (pe_op op_add (pe_op op_add (pv 2) pe_int) (pe_callTy cr_int (by rfl) T.b_int (by decide +kernel) (pa_cons (pe_ix (ix_list_k (K := K)) (pv 0) pe_int (fun _ _ => rfl)) pa_nil))) pe_int))
    (pss_cons (ps_if (pt_cmpR op_eq (pv 4) (pv 3) (nomark _)) (pss_one (ps_set (i := 4) sc.nd rfl (Or.inl rfl) (pe_op op_mod (pe_op op_add (pv 2) pe_int) pe_int))) pss_nil)
    (pss_one (ps_ret (pe_slice sl_str (pe_op op_addS (pe_op op_addS (pe_ix ix_str (pv 1) (pv 2) (fun _ _ => rfl)) (pe_ix ix_str (pv 1) (pv 3) (fun _ _ => rfl))) (pe_ix ix_str (pv 1) (pv 4) (fun _ _ => rfl))) po_none (po_some (pe_ix (ix_list_k (K := K)) (pe_lst (pa_cons pe_int (pa_cons pe_int (pa_cons pe_int (pa_cons pe_int pa_nil))))) (pe_ix (ix_list_k (K := K)) (pv 0) pe_int (fun _ _ => rfl)) (fun _ _ => rfl)))))))))))), ?_⟩
  refine' a_setv (K := K) (x := .str (S alls)) er_c ?g1
  intro H1 e1
  replace hs := hs.mono e1
  refine' a_when (K := K) ?g2 ?g3 ?g4
  case g2 => walk_at "et"
  case g3 =>
    intro hb H2 e2
    have hb' : sp.getD 0 0 = 0 := by simpa using hb
    refine' a_rete (K := K) (er_v rfl) ?g5 (e1.trans e2) hk
    show Dd.s (S alls) = Dd.s (S (inksM sp))
    unfold inksM
    rw [if_pos hb']
  case g4 =>
    intro hb H2 e2
    have hb' : ¬ sp.getD 0 0 = 0 := by simpa using hb
    replace hs := hs.mono e2
    have h22a : 0 ≤ sp.getD (2 : Int).toNat 0 := h22.1
    have h22b : sp.getD (2 : Int).toNat 0 < 27 := h22.2
    refine' a_setv (K := K) (x := .int (inkF sp)) (Er.to ?g6 ?g7) ?g8
    case g6 => walk_at "er"
    case g7 =>
      show Dd.i (sp.getD 2 0 * (if decide (sp.getD 1 0 < 2) = true then 1 else 0)) = Dd.i (inkF sp)
      unfold inkF
      by_cases h : sp.getD 1 0 < 2 <;> simp [h]
    intro H3 e3
    replace hs := hs.mono e3
    refine' a_setv (K := K) ?g9 ?g10
    case g9 => walk_at "er"
    intro H4 e4
    replace hs := hs.mono e4
    refine' a_setv (K := K) ?g11 ?g12
    case g11 => walk_at "er"
    intro H5 e5
    replace hs := hs.mono e5
    refine' a_ifAsg (K := K) (x := .int (ink3 (inkF sp) (sp.getD 3 0) (sp.getD 4 0))) ?g13 ?g14 ?g15 ?g16
    case g13 => walk_at "et"
    case g14 =>
      intro hb
      have hb' : (inkF sp + 1 + sp.getD 4 0) % 27 = ink2 (inkF sp) (sp.getD 3 0) := of_decide_eq_true hb
      refine' Er.to (K := K) ?g17 ?g18
      case g17 => walk_at "er"
      show Dd.i _ = Dd.i _
      unfold ink3
      rw [if_pos hb']
    case g15 =>
      intro hb
      have hb' : ¬ (inkF sp + 1 + sp.getD 4 0) % 27 = ink2 (inkF sp) (sp.getD 3 0) := of_decide_eq_false hb
      have e0 : ink3 (inkF sp) (sp.getD 3 0) (sp.getD 4 0) = (inkF sp + 1 + sp.getD 4 0) % 27 := by
        unfold ink3
        rw [if_neg hb']
      rw [e0]
      rfl
    intro H6 e6
    replace hs := hs.mono e6
    have b2a : 0 ≤ ink2 (inkF sp) (sp.getD 3 0) := Int.emod_nonneg _ (by decide)
    have b2b : ink2 (inkF sp) (sp.getD 3 0) < 27 := Int.emod_lt_of_pos _ (by decide)
    have b3a : 0 ≤ ink3 (inkF sp) (sp.getD 3 0) (sp.getD 4 0) := by
      unfold ink3
      split
      · exact Int.emod_nonneg _ (by decide)
      · exact Int.emod_nonneg _ (by decide)
    have b3b : ink3 (inkF sp) (sp.getD 3 0) (sp.getD 4 0) < 27 := by
      unfold ink3
      split
      · exact Int.emod_lt_of_pos _ (by decide)
      · exact Int.emod_lt_of_pos _ (by decide)
    have la : alls.length = 27 := rfl
    have h00a : 0 ≤ sp.getD (0 : Int).toNat 0 := h00.1
    have h00b : sp.getD (0 : Int).toNat 0 < 4 := h00.2
    have m4 : ∀ j : Nat, j < 4 → (vis [3, 3, 3, 2]).getD j .non = .int ((([3, 3, 3, 2] : List Nat).getD j 0 : Nat) : Int) := by decide
    refine' a_rete (K := K) (er_slTo (K := K) (n := ([3, 3, 3, 2] : List Nat).getD (sp.getD 0 0).toNat 0) ?g19 ?g27 ?g20) ?g21 (((((e1.trans e2).trans e3).trans e4).trans e5).trans e6) hk
    case g19 =>
      refine er_op (K := K) (d1 := .s (S ([alls.getD (inkF sp).toNat 0] ++ [alls.getD (ink2 (inkF sp) (sp.getD 3 0)).toNat 0]))) (d2 := .s (S [alls.getD (ink3 (inkF sp) (sp.getD 3 0) (sp.getD 4 0)).toNat 0])) (er_op (K := K) (d1 := .s (S [alls.getD (inkF sp).toNat 0])) (d2 := .s (S [alls.getD (ink2 (inkF sp) (sp.getD 3 0)).toNat 0])) ?g22 ?g23 (ro_addC (by simp))) ?g24 (ro_addC (by simp))
      case g22 => exact er_op (er_v rfl) (er_v rfl) (ro_ixC hF.1 (by rw [la]; exact hF.2) (by rw [la]; decide))
      case g23 => exact er_op (er_v rfl) (er_v rfl) (ro_ixC b2a (by rw [la]; exact b2b) (by rw [la]; decide))
      case g24 => exact er_op (er_v rfl) (er_v rfl) (ro_ixC b3a (by rw [la]; exact b3b) (by rw [la]; decide))
    case g27 => simp
    case g20 =>
      refine' Er.to (K := K) ?g25 ?g26
      case g25 => walk_at "er"
      show Dd.v ((vis [3, 3, 3, 2]).getD (sp.getD (0 : Int).toNat 0).toNat .non) = _
      rw [m4 _ (by omega)]
      rfl
    case g21 =>
      show Dd.s (S _) = Dd.s (S (inksM sp))
      unfold inksM
      rw [if_neg hb']
      rfl
end
end Mi

set_option maxHeartbeats 4000000
namespace Mi
open PySem PySem.Spec PyProof.Rows L2 Evl
local macro_rules | `(tactic| walk_at "side") => `(tactic| (first | assumption | omega | exact rfl | decide | (simp only [List.length_cons, List.length_nil, List.length_map, List.length_append, List.length_replicate] <;> omega)))
local macro_rules | `(tactic| walk_at "ro") => `(tactic| (first
  | with_reducible exact ro_I0
  | with_reducible exact ro_1018
  | with_reducible exact ro_neC
  | with_reducible exact ro_eqC
  | with_reducible exact ro_neI
  | with_reducible exact ro_eqI
  | with_reducible exact ro_neB
  | with_reducible exact ro_eqB
  | ((with_reducible apply ro_mod); (walk_at "side"))
  | ((with_reducible apply ro_div) <;> (walk_at "side"))
  | ((with_reducible apply ro_mulL) <;> (walk_at "side"))
  | ((with_reducible apply ro_mulR) <;> (walk_at "side"))
  | ((with_reducible apply ro_addC); (walk_at "side"))
  | ((with_reducible apply ro_ixC) <;> (walk_at "side"))
  | ((with_reducible apply ro_ixI) <;> (walk_at "side"))
  | ((with_reducible apply ro_ixIN) <;> (walk_at "side"))
  | ((with_reducible apply ro_ixT2) <;> (walk_at "side"))
  | ((with_reducible apply ro_ixG) <;> (walk_at "side"))
  | ((with_reducible apply ro_eq); exact rfl)
  | ((with_reducible apply ro_ne); exact rfl)
  | with_reducible exact ro_isN
  | with_reducible exact ro_notN
  | with_reducible exact ro_eqL
  | with_reducible exact ro_neL
  | with_reducible exact ro_eqU
  | ((with_reducible apply ro_cat); (walk_at "side"))
  | with_reducible exact ro_inLi
  | with_reducible exact ro_inNi
  | with_reducible exact ro_inUi
  | ((with_reducible apply ro_inL) <;> (walk_at "side"))
  | ((with_reducible apply ro_inN) <;> (walk_at "side"))
  | ((with_reducible apply ro_inU) <;> (walk_at "side"))))
local macro_rules | `(tactic| walk_at "rc") => `(tactic| (first
  | with_reducible exact rc_int
  | with_reducible exact rc_intB
  | with_reducible exact rc_max2
  | ((with_reducible apply rc_lenC); (walk_at "side"))
  | with_reducible exact rc_lenI
  | with_reducible exact rc_lenT
  | with_reducible exact rc_lenIN
  | with_reducible exact rc_lenTN
  | with_reducible exact rc_lenL
  | with_reducible exact rc_lenN
  | with_reducible exact rc_lenU
  | with_reducible exact rc_listL
  | with_reducible exact rc_listU
  | with_reducible exact rc_tupL
  | with_reducible exact rc_tupN
  | ((with_reducible apply rc_isi_int); decide +kernel)
  | ((with_reducible apply rc_isi_str); decide +kernel)
  | ((with_reducible apply rc_isi_bl); decide +kernel)
  | ((with_reducible apply rc_isi_non); decide +kernel)
  | ((with_reducible apply rc_isi_u); decide +kernel)
  | ((with_reducible apply rc_isi_l); decide +kernel)))
local macro_rules | `(tactic| walk_at "er") => `(tactic| (first
  | ((with_reducible apply er_var); (exact rfl); assumption)
  | ((with_reducible apply er_v); exact rfl)
  | with_reducible exact er_c
  | ((with_reducible apply er_pick); (walk_at "er"); (walk_at "er"); (walk_at "er"))
  | ((with_reducible apply er_op); (walk_at "er"); (walk_at "er"); (walk_at "ro"))
  | ((with_reducible apply er_cb); (walk_at "era"); (walk_at "rc"))
  | ((with_reducible apply er_lst'); (walk_at "era"); (exact rfl); (walk_at "side"))
  | ((with_reducible apply er_tup'); (walk_at "era"); (exact rfl); (walk_at "side"))
  | ((with_reducible apply er_notV); (walk_at "er"))
  | ((with_reducible apply er_andV); (walk_at "er"); (intro _; (walk_at "er")))
  | ((with_reducible apply er_orV); (walk_at "er"); (intro _; (walk_at "er")))
  | ((with_reducible apply er_ite); (walk_at "et"); (intro _; (walk_at "er")); (intro _; (walk_at "er")))))
local macro_rules | `(tactic| walk_at "era") => `(tactic| (first
  | with_reducible exact era_nil
  | ((with_reducible apply era_cons); (walk_at "er"); (walk_at "era"))))
local macro_rules | `(tactic| walk_at "et") => `(tactic| (first
  | ((with_reducible apply et_an); (walk_at "et"); (intro _; (walk_at "et")))
  | ((with_reducible apply et_orr); (walk_at "et"); (intro _; (walk_at "et")))
  | ((with_reducible apply et_nt); (walk_at "et"))
  | ((with_reducible apply et1); (walk_at "er"))
  | ((with_reducible apply et2); (walk_at "er"))))

section
variable {P : Program} {w : World} {K : PySem.W.Frag} {mg : Str → Option Value} {base : Heap} {tD tO : Tok}

abbrev s__law_layer : Stmt := topS 19
theorem sc__law_layer : FnScope ["inks", "share", "spots", "wide", "text", "k"] ["inks", "share", "spots", "wide"] (defScope s__law_layer) := ⟨rfl, rfl, rfl, by decide +kernel, rfl, by decide +kernel, by decide +kernel⟩

def layerM (ik : List Nat) (share : Int) (sp : List Int) (wide : Nat) : List Nat := (List.range wide).map fun k => if share ≤ sp.getD k 0 % 4 then ik.getD (sp.getD k 0 / 4 % (ik.length : Int)).toNat 0 else 45
theorem layerM_len (ik : List Nat) (share : Int) (sp : List Int) (wide : Nat) : (layerM ik share sp wide).length = wide := by simp [layerM]
abbrev sp__law_layer (K : PySem.W.Frag) : Sp := spR K (fun a : List Nat × Int × List Int × Nat => 1 ≤ a.1.length ∧ a.1.length ≤ 27 ∧ a.2.2.1.length ≤ 1000 ∧ a.2.2.2 ≤ a.2.2.1.length ∧ a.2.2.2 ≤ 30) (fun a => [.s (S a.1), .i a.2.1, .l (vis a.2.2.1), .i (a.2.2.2 : Int)]) fun a => .s (S (layerM a.1 a.2.1 a.2.2.1 a.2.2.2))
theorem has__law_layer (T : Txt K mg tD tO) (h : At K mg "_law_layer" s__law_layer ["inks", "share", "spots", "wide"]) : Has P w K mg base 1 "_law_layer" ["inks", "share", "spots", "wide"] (sp__law_layer K) := by
  refine h.hasR sc__law_layer (fun _ => rfl) fun f cdv A outer s H a vs Q E hr hp hv hk => ?_
  obtain ⟨ik, share, sp, wide⟩ := a
  obtain ⟨h1, h2, h3, h4, h5⟩ := hp
  replace h1 : 1 ≤ ik.length := h1
  replace h2 : ik.length ≤ 27 := h2
  replace h3 : sp.length ≤ 1000 := h3
  replace h4 : wide ≤ sp.length := h4
  replace h5 : wide ≤ 30 := h5
  rcases hv with _ | ⟨rfl, _ | ⟨rfl, _ | ⟨⟨p, rfl, hS⟩, _ | ⟨rfl, _ | _⟩⟩⟩⟩
  have hs : Is K H (.l (vis sp)) (.ref p) := ⟨p, rfl, hS⟩
  have sc := sc__law_layer
  refine ⟨_, (pss_cons (ps_set (i := 4) sc.nd rfl (Or.inl rfl) (pe_strS [] (by rfl)))
    (pss_cons (ps_for PassesOwn.never rfl (pi_range1 (by rfl) T.b_range (pa_cons (pv 3) pa_nil)) (pg_name (i := 5) sc.nd rfl (Or.inl rfl)) (pss_one (ps_set (i := 4) sc.nd rfl (Or.inl rfl) (pe_op op_addS (pv 4) (pe_ix (ix_list_k (K := K)) (pe_lst (pa_cons (pe_strS [45] (by rfl)) (pa_cons (pe_ix ix_str (pv 0) (pe_op op_mod (pe_op op_fdiv (pe_callTy cr_int (by rfl) T.b_int (by decide +kernel) (pa_cons (pe_ix (ix_list_k (K := K)) (pv 2) (pv 5) (fun _ _ => rfl)) pa_nil)) pe_int) (pe_callB cr_lenStr (by rfl) T.b_len (by decide +kernel) (pa_cons (pv 0) pa_nil))) (fun _ _ => rfl)) pa_nil))) (pe_callTy cr_int (by rfl) T.b_int (by decide +kernel) (pa_cons (pe_cmpR op_ge (pe_op op_mod (pe_callTy cr_int (by rfl) T.b_int (by decide +kernel) (pa_cons (pe_ix (ix_list_k (K := K)) (pv 2) (pv 5) (fun _ _ => rfl)) pa_nil)) pe_int) (pv 1) (nomark _)) pa_nil)) (fun _ _ => rfl))))))
    (pss_one (ps_ret (pv 4))))), ?_⟩
  refine' a_setv (K := K) (x := .str (S [])) er_c ?g1
  intro H1 e1
  refine b_forR1 (K := K) (n := wide) ?_ (by omega) (fun i σ' H' => ∃ y, σ' = [some (.str (S ik)), some (.int share), some (.ref p), some (.int (wide : Int)), some (.str (S (layerM ik share sp i))), y] ∧ Ex H H') (fun H5 e5 => ⟨none, rfl, e1.trans e5⟩) ?_ ?_
  · walk_at "era"
  · rintro i σ' H' hi ⟨y, rfl, e⟩
    replace hs := hs.mono e
    have hm0 : 0 ≤ sp.getD ((i : Nat) : Int).toNat 0 / 4 % (ik.length : Int) := Int.emod_nonneg _ (by omega)
    have hm1 : sp.getD ((i : Nat) : Int).toNat 0 / 4 % (ik.length : Int) < (ik.length : Int) := Int.emod_lt_of_pos _ (by omega)
    refine' a_setv1 (K := K) (x := .str (S (layerM ik share sp (i + 1)))) ?g2 ?g3
    case g2 =>
      refine' Er.to (K := K) (er_op (K := K) (d1 := .s (S (layerM ik share sp i))) (d2 := .s (S [if share ≤ sp.getD i 0 % 4 then ik.getD (sp.getD i 0 / 4 % (ik.length : Int)).toNat 0 else 45])) (er_v rfl) ?g4 (ro_addC ?g5)) ?g6
      case g4 =>
        refine' Er.to (K := K) ?g7 ?g8
        case g7 => walk_at "er"
        rw [Int.toNat_natCast]
        by_cases hc : share ≤ sp.getD i 0 % 4
        · rw [decide_eq_true hc, if_pos rfl, if_pos hc]
        · rw [decide_eq_false hc, if_neg Bool.false_ne_true, if_neg hc]
      case g5 =>
        rw [layerM_len]
        simp
        omega
      case g6 =>
        show Dd.s (S _) = Dd.v (V.str (S (layerM ik share sp (i + 1))))
        unfold layerM
        rw [List.range_succ, List.map_append]
        rfl
    intro H4 e4
    exact ⟨some (.int (i : Int)), rfl, e.trans e4⟩
  · rintro σ' H' ⟨y, rfl, e⟩
    exact a_rete (K := K) (er_v rfl) rfl e hk

abbrev s__law_other : Stmt := topS 20
theorem sc__law_other : FnScope ["mark", "step", "alls"] ["mark", "step"] (defScope s__law_other) := ⟨rfl, rfl, rfl, by decide +kernel, rfl, by decide +kernel, by decide +kernel⟩

theorem occ_alls : ∀ c ∈ alls, Builtin.Str.occurrences (S alls) (S [c]) 0 (S alls).length 1 = [alls.idxOf c] := by decide +kernel
theorem occ_signs : ∀ c ∈ signs, Builtin.Str.occurrences (S signs) (S [c]) 0 (S signs).length 1 = [signs.idxOf c] := by decide +kernel
def otherM (c : Nat) (step : Int) : Nat := if c = 45 then 45 else alls.getD (((alls.idxOf c : Nat) + 1 + step) % 27).toNat 0
abbrev sp__law_other (K : PySem.W.Frag) : Sp := spR K (fun a : Nat × Int => a.1 ∈ signs) (fun a => [.s (S [a.1]), .i a.2]) fun a => .s (S [otherM a.1 a.2])
theorem has__law_other (T : Txt K mg tD tO) (h : At K mg "_law_other" s__law_other ["mark", "step"]) : Has P w K mg base 1 "_law_other" ["mark", "step"] (sp__law_other K) := by
  refine h.hasR sc__law_other (fun _ => rfl) fun f cdv A outer s H a vs Q E hr hp hv hk => ?_
  obtain ⟨c, step⟩ := a
  replace hp : c ∈ signs := hp
  rcases hv with _ | ⟨rfl, _ | ⟨rfl, _ | _⟩⟩
  have sc := sc__law_other
  refine ⟨_, (pss_cons (ps_set (i := 2) sc.nd rfl (Or.inl rfl) (pe_strS [46, 97, 98, 99, 100, 101, 102, 103, 104, 105, 106, 107, 108, 109, 110, 111, 112, 113, 114, 115, 116, 117, 118, 119, 120, 121, 122] (by rfl)))
    (pss_cons (ps_if (pt_cmpR op_eq (pv 0) (pe_strS [45] (by rfl)) (nomark _)) (pss_one (ps_ret (pe_strS [45] (by rfl)))) pss_nil)
    (pss_one (ps_ret (pe_ix ix_str (pv 2) (pe_op op_mod (pe_op op_add (pe_op op_add (pe_bm_k (K := K) PySem.F.plainAttrs_str PySem.F.slot_str_index PySem.F.type_str_index mt_sindexN (pv 2) (pa_cons (pv 0) pa_nil)) pe_int) (pe_callTy cr_int (by rfl) T.b_int (by decide +kernel) (pa_cons (pv 1) pa_nil))) pe_int) (fun _ _ => rfl)))))), ?_⟩
  refine' a_setv (K := K) (x := .str (S alls)) er_c ?g1
  intro H1 e1
  refine' a_when (K := K) ?g2 ?g3 ?g4
  case g2 => walk_at "et"
  case g3 =>
    intro hb H2 e2
    have hb' : c = 45 := by simpa using hb
    refine' a_rete (K := K) ?g5 ?g6 (e1.trans e2) hk
    case g5 => walk_at "er"
    show Dd.s (S [45]) = Dd.s (S [otherM c step])
    unfold otherM
    rw [if_pos hb']
  case g4 =>
    intro hb H2 e2
    have hb' : ¬ c = 45 := by simpa using hb
    have hc : c ∈ alls := by
      rcases List.mem_cons.mp hp with h | h
      · exact absurd h hb'
      · exact h
    have hm0 : 0 ≤ (((alls.idxOf c : Nat) : Int) + 1 + step) % 27 := Int.emod_nonneg _ (by decide)
    have hm1 : (((alls.idxOf c : Nat) : Int) + 1 + step) % 27 < 27 := Int.emod_lt_of_pos _ (by decide)
    have la : alls.length = 27 := rfl
    have hix : Er K (tBM K "str" rSIndex (tVar 2) (tCons (tVar 0) tNil)) _ H2 (.i ((alls.idxOf c : Nat) : Int)) := er_bm (K := K) (σ := [some (.str (S [c])), some (.int step), some (.str (S alls))]) (d0 := .s (S alls)) (ds := [.s (S [c])]) (er_v rfl) (era_cons (er_v rfl) era_nil) (rm_sindex (occ_alls c hc))
    refine' a_rete (K := K) (er_op (K := K) (d1 := .s (S alls)) (d2 := .i ((((alls.idxOf c : Nat) : Int) + 1 + step) % 27)) (er_v rfl) ?g7 (ro_ixC hm0 (by rw [la]; exact hm1) (by rw [la]; decide))) ?g8 (e1.trans e2) hk
    case g7 => exact er_op (er_op (er_op hix er_c ro_I0) (er_cb (era_cons (er_v rfl) era_nil) rc_int) ro_I0) er_c (ro_mod (by decide))
    show Dd.s (S _) = Dd.s (S [otherM c step])
    unfold otherM
    rw [if_neg hb']

abbrev s__law_close : Stmt := topS 22
theorem sc__law_close : FnScope ["text", "place", "number", "signs", "at"] ["text", "place", "number"] (defScope s__law_close) := ⟨rfl, rfl, rfl, by decide +kernel, rfl, by decide +kernel, by decide +kernel⟩

def closeM (l : List Nat) (pl : Nat) (num : Int) : List Nat := l.take pl ++ [signs.getD (((signs.idxOf (l.getD pl 0) : Nat) + num) % 28).toNat 0] ++ l.drop (pl + 1)
theorem closeM_len {l : List Nat} {pl : Nat} {num : Int} (h : pl < l.length) : (closeM l pl num).length = l.length := by
  simp [closeM]
  omega
abbrev sp__law_close (K : PySem.W.Frag) : Sp := spR K (fun a : List Nat × Nat × Int => a.1.length ≤ 30 ∧ a.2.1 < a.1.length ∧ ∀ c ∈ a.1, c ∈ signs) (fun a => [.s (S a.1), .i (a.2.1 : Int), .i a.2.2]) fun a => .s (S (closeM a.1 a.2.1 a.2.2))
theorem has__law_close (T : Txt K mg tD tO) (h : At K mg "_law_close" s__law_close ["text", "place", "number"]) : Has P w K mg base 1 "_law_close" ["text", "place", "number"] (sp__law_close K) := by
  refine h.hasR sc__law_close (fun _ => rfl) fun f cdv A outer s H a vs Q E hr hp hv hk => ?_
  obtain ⟨l, pl, num⟩ := a
  obtain ⟨h1, h2, h3⟩ := hp
  replace h1 : l.length ≤ 30 := h1
  replace h2 : pl < l.length := h2
  replace h3 : ∀ c ∈ l, c ∈ signs := h3
  rcases hv with _ | ⟨rfl, _ | ⟨rfl, _ | ⟨rfl, _ | _⟩⟩⟩
  have sc := sc__law_close
  refine ⟨_, (pss_cons (ps_set (i := 3) sc.nd rfl (Or.inl rfl) (pe_strS [45, 46, 97, 98, 99, 100, 101, 102, 103, 104, 105, 106, 107, 108, 109, 110, 111, 112, 113, 114, 115, 116, 117, 118, 119, 120, 121, 122] (by rfl)))
    (pss_cons (ps_set (i := 4) sc.nd rfl (Or.inl rfl) (pe_op op_mod (pe_op op_add (pe_bm_k (K := K) PySem.F.plainAttrs_str PySem.F.slot_str_index PySem.F.type_str_index mt_sindexN (pv 3) (pa_cons (pe_ix ix_str (pv 0) (pv 1) (fun _ _ => rfl)) pa_nil)) (pe_callTy cr_int (by rfl) T.b_int (by decide +kernel) (pa_cons (pv 2) pa_nil))) pe_int))
    (pss_one (ps_ret (pe_op op_addS (pe_op op_addS (pe_slice sl_str (pv 0) po_none (po_some (pv 1))) (pe_ix ix_str (pv 3) (pv 4) (fun _ _ => rfl))) (pe_slice sl_str (pv 0) (po_some (pe_op op_add (pv 1) pe_int)) po_none)))))), ?_⟩
  refine' a_setv (K := K) (x := .str (S signs)) er_c ?g1
  intro H1 e1
  have hc : l.getD pl 0 ∈ signs := by
    rw [List.getD_eq_getElem?_getD, List.getElem?_eq_getElem h2]
    exact h3 _ (List.getElem_mem h2)
  have ls : signs.length = 28 := rfl
  refine' a_setv (K := K) (x := .int ((((signs.idxOf (l.getD pl 0) : Nat) : Int) + num) % 28)) ?g2 ?g3
  case g2 =>
    refine er_op (K := K) (er_op (er_bm (K := K) (d0 := .s (S signs)) (ds := [.s (S [l.getD pl 0])]) (er_v rfl) (era_cons (Er.to (er_op (d1 := .s (S l)) (d2 := .i (pl : Int)) (er_v rfl) (er_v rfl) (ro_ixC (by omega) (by omega) (by omega))) ?g4) era_nil) (rm_sindex (occ_signs _ hc))) (er_cb (era_cons (er_v rfl) era_nil) rc_int) ro_I0) er_c (ro_mod (by decide))
    case g4 => rw [Int.toNat_natCast]
  intro H2 e2
  have hm0 : 0 ≤ (((signs.idxOf (l.getD pl 0) : Nat) : Int) + num) % 28 := Int.emod_nonneg _ (by decide)
  have hm1 : (((signs.idxOf (l.getD pl 0) : Nat) : Int) + num) % 28 < 28 := Int.emod_lt_of_pos _ (by decide)
  refine' a_rete (K := K) (er_op (K := K) (d1 := .s (S (l.take pl ++ [signs.getD ((((signs.idxOf (l.getD pl 0) : Nat) : Int) + num) % 28).toNat 0]))) (d2 := .s (S (l.drop (pl + 1)))) (er_op (K := K) (d1 := .s (S (l.take pl))) (d2 := .s (S [signs.getD ((((signs.idxOf (l.getD pl 0) : Nat) : Int) + num) % 28).toNat 0])) ?g5 ?g6 (ro_addC ?g7)) ?g8 (ro_addC ?g9)) rfl (e1.trans e2) hk
  case g5 => exact er_slTo (er_v rfl) (by omega) (er_v rfl)
  case g6 => exact er_op (er_v rfl) (er_v rfl) (ro_ixC hm0 (by rw [ls]; exact hm1) (by rw [ls]; decide))
  case g7 => simp; omega
  case g8 => exact er_slFrom (er_v rfl) (by omega) (Er.to (er_op (er_v rfl) er_c ro_I0) rfl)
  case g9 => simp; omega
end
end Mi

set_option maxHeartbeats 4000000
namespace Mi
open PySem PySem.Spec PyProof.Rows L2 Evl
local macro_rules | `(tactic| walk_at "side") => `(tactic| (first | assumption | omega | exact rfl | decide | (simp only [List.length_cons, List.length_nil, List.length_map, List.length_append, List.length_replicate] <;> omega)))
local macro_rules | `(tactic| walk_at "ro") => `(tactic| (first
  | with_reducible exact ro_I0
  | with_reducible exact ro_1018
  | with_reducible exact ro_neC
  | with_reducible exact ro_eqC
  | with_reducible exact ro_neI
  | with_reducible exact ro_eqI
  | with_reducible exact ro_neB
  | with_reducible exact ro_eqB
  | ((with_reducible apply ro_mod); (walk_at "side"))
  | ((with_reducible apply ro_div) <;> (walk_at "side"))
  | ((with_reducible apply ro_mulL) <;> (walk_at "side"))
  | ((with_reducible apply ro_mulR) <;> (walk_at "side"))
  | ((with_reducible apply ro_addC); (walk_at "side"))
  | ((with_reducible apply ro_ixC) <;> (walk_at "side"))
  | ((with_reducible apply ro_ixI) <;> (walk_at "side"))
  | ((with_reducible apply ro_ixIN) <;> (walk_at "side"))
  | ((with_reducible apply ro_ixT2) <;> (walk_at "side"))
  | ((with_reducible apply ro_ixG) <;> (walk_at "side"))
  | ((with_reducible apply ro_eq); exact rfl)
  | ((with_reducible apply ro_ne); exact rfl)
  | with_reducible exact ro_isN
  | with_reducible exact ro_notN
  | with_reducible exact ro_eqL
  | with_reducible exact ro_neL
  | with_reducible exact ro_eqU
  | ((with_reducible apply ro_cat); (walk_at "side"))
  | with_reducible exact ro_inLi
  | with_reducible exact ro_inNi
  | with_reducible exact ro_inUi
  | ((with_reducible apply ro_inL) <;> (walk_at "side"))
  | ((with_reducible apply ro_inN) <;> (walk_at "side"))
  | ((with_reducible apply ro_inU) <;> (walk_at "side"))))
local macro_rules | `(tactic| walk_at "rc") => `(tactic| (first
  | with_reducible exact rc_int
  | with_reducible exact rc_intB
  | with_reducible exact rc_max2
  | ((with_reducible apply rc_lenC); (walk_at "side"))
  | with_reducible exact rc_lenI
  | with_reducible exact rc_lenT
  | with_reducible exact rc_lenIN
  | with_reducible exact rc_lenTN
  | with_reducible exact rc_lenL
  | with_reducible exact rc_lenN
  | with_reducible exact rc_lenU
  | with_reducible exact rc_listL
  | with_reducible exact rc_listU
  | with_reducible exact rc_tupL
  | with_reducible exact rc_tupN
  | ((with_reducible apply rc_isi_int); decide +kernel)
  | ((with_reducible apply rc_isi_str); decide +kernel)
  | ((with_reducible apply rc_isi_bl); decide +kernel)
  | ((with_reducible apply rc_isi_non); decide +kernel)
  | ((with_reducible apply rc_isi_u); decide +kernel)
  | ((with_reducible apply rc_isi_l); decide +kernel)))
local macro_rules | `(tactic| walk_at "er") => `(tactic| (first
  | ((with_reducible apply er_var); (exact rfl); assumption)
  | ((with_reducible apply er_v); exact rfl)
  | with_reducible exact er_c
  | ((with_reducible apply er_pick); (walk_at "er"); (walk_at "er"); (walk_at "er"))
  | ((with_reducible apply er_op); (walk_at "er"); (walk_at "er"); (walk_at "ro"))
  | ((with_reducible apply er_cb); (walk_at "era"); (walk_at "rc"))
  | ((with_reducible apply er_lst'); (walk_at "era"); (exact rfl); (walk_at "side"))
  | ((with_reducible apply er_tup'); (walk_at "era"); (exact rfl); (walk_at "side"))
  | ((with_reducible apply er_notV); (walk_at "er"))
  | ((with_reducible apply er_andV); (walk_at "er"); (intro _; (walk_at "er")))
  | ((with_reducible apply er_orV); (walk_at "er"); (intro _; (walk_at "er")))
  | ((with_reducible apply er_ite); (walk_at "et"); (intro _; (walk_at "er")); (intro _; (walk_at "er")))))
local macro_rules | `(tactic| walk_at "era") => `(tactic| (first
  | with_reducible exact era_nil
  | ((with_reducible apply era_cons); (walk_at "er"); (walk_at "era"))))
local macro_rules | `(tactic| walk_at "et") => `(tactic| (first
  | ((with_reducible apply et_an); (walk_at "et"); (intro _; (walk_at "et")))
  | ((with_reducible apply et_orr); (walk_at "et"); (intro _; (walk_at "et")))
  | ((with_reducible apply et_nt); (walk_at "et"))
  | ((with_reducible apply et1); (walk_at "er"))
  | ((with_reducible apply et2); (walk_at "er"))))

section
variable {P : Program} {w : World} {K : PySem.W.Frag} {mg : Str → Option Value} {base : Heap} {tD tO : Tok}

abbrev s__law_second : Stmt := topS 21
theorem sc__law_second : FnScope ["low", "free", "mode", "place", "step", "turns", "high", "k", "sign"] ["low", "free", "mode", "place", "step", "turns"] (defScope s__law_second) := ⟨rfl, rfl, rfl, by decide +kernel, rfl, by decide +kernel, by decide +kernel⟩

def secC (low free : List Nat) (mode : Int) (place : Nat) (step : Int) (turns : List Int) (k : Nat) : Nat :=
  if (decide (k = place) && decide (mode = 5)) = true then 45 else
  if (decide (k = place) && decide (mode ∈ [3, 6, 9])) = true then otherM (low.getD k 0) step else
  if (decide (low.getD k 0 = 45) && decide (7 ≤ mode)) = true then 45 else
  if (!decide (low.getD k 0 = 45) && decide (2 ≤ mode)) = true then (if (decide (turns.getD k 0 = 1) && (decide (mode < 4) || decide (mode = 8))) = true then 45 else low.getD k 0) else free.getD k 0
def secM (low free : List Nat) (mode : Int) (place : Nat) (step : Int) (turns : List Int) (n : Nat) : List Nat := (List.range n).map (secC low free mode place step turns)
theorem secM_len {low free : List Nat} {mode : Int} {place : Nat} {step : Int} {turns : List Int} {n : Nat} : (secM low free mode place step turns n).length = n := by simp [secM]
theorem getD_mem {l : List Nat} {k : Nat} (h : k < l.length) : l.getD k 0 ∈ l := by
  rw [List.getD_eq_getElem?_getD, List.getElem?_eq_getElem h]
  exact List.getElem_mem h
theorem otherM_mem (c : Nat) (s : Int) : otherM c s ∈ signs := by
  unfold otherM
  by_cases h : c = 45
  · rw [if_pos h]; decide
  · rw [if_neg h]
    have la : alls.length = 27 := rfl
    exact List.mem_cons_of_mem _ (getD_mem (by rw [la]; omega))
theorem secC_mem {low free : List Nat} {mode : Int} {place : Nat} {step : Int} {turns : List Int} {k : Nat} (h1 : k < low.length) (h2 : k < free.length) (m1 : ∀ c ∈ low, c ∈ signs) (m2 : ∀ c ∈ free, c ∈ signs) : secC low free mode place step turns k ∈ signs := by
  have d : (45 : Nat) ∈ signs := by decide
  have a1 := m1 _ (getD_mem h1)
  have a2 := m2 _ (getD_mem h2)
  have a3 := otherM_mem (low.getD k 0) step
  unfold secC
  repeat' (split <;> try assumption)
abbrev sp__law_second (K : PySem.W.Frag) : Sp := spR K (fun a : List Nat × List Nat × Int × Nat × Int × List Int => a.1.length ≤ 30 ∧ a.1.length ≤ a.2.1.length ∧ a.2.1.length ≤ 30 ∧ a.1.length ≤ a.2.2.2.2.2.length ∧ ∀ c ∈ a.1, c ∈ signs) (fun a => [.s (S a.1), .s (S a.2.1), .i a.2.2.1, .i (a.2.2.2.1 : Int), .i a.2.2.2.2.1, .l (vis a.2.2.2.2.2)]) fun a => .s (S (secM a.1 a.2.1 a.2.2.1 a.2.2.2.1 a.2.2.2.2.1 a.2.2.2.2.2 a.1.length))
theorem has__law_second (T : Txt K mg tD tO) (h : At K mg "_law_second" s__law_second ["low", "free", "mode", "place", "step", "turns"]) (C__law_other : Has P w K mg base 1 "_law_other" ["mark", "step"] (sp__law_other K)) : Has P w K mg base 2 "_law_second" ["low", "free", "mode", "place", "step", "turns"] (sp__law_second K) := by
  refine h.hasR sc__law_second (fun _ => rfl) fun f cdv A outer s H a vs Q E hr hp hv hk => ?_
  obtain ⟨low, free, mode, place, step, turns⟩ := a
  obtain ⟨h1, h2, h3, h4, h5⟩ := hp
  replace h1 : low.length ≤ 30 := h1
  replace h2 : low.length ≤ free.length := h2
  replace h3 : free.length ≤ 30 := h3
  replace h4 : low.length ≤ turns.length := h4
  replace h5 : ∀ c ∈ low, c ∈ signs := h5
  rcases hv with _ | ⟨rfl, _ | ⟨rfl, _ | ⟨rfl, _ | ⟨rfl, _ | ⟨rfl, _ | ⟨⟨p, rfl, hS⟩, _ | _⟩⟩⟩⟩⟩⟩
  have hs : Is K H (.l (vis turns)) (.ref p) := ⟨p, rfl, hS⟩
  have sc := sc__law_second
  refine ⟨_, (pss_cons (ps_set (i := 6) sc.nd rfl (Or.inl rfl) (pe_strS [] (by rfl)))
    (pss_cons (ps_for PassesOwn.never rfl (pi_range1 (by rfl) T.b_range (pa_cons (pe_callB cr_lenStr (by rfl) T.b_len (by decide +kernel) (pa_cons (pv 0) pa_nil)) pa_nil)) (pg_name (i := 7) sc.nd rfl (Or.inl rfl)) (pss_cons (ps_set (i := 8) sc.nd rfl (Or.inl rfl) (pe_ix ix_str (pv 1) (pv 7) (fun _ _ => rfl)))
    (pss_cons (ps_if (PW.pt (pw_and (pt_cmpR op_ne (pe_ix ix_str (pv 0) (pv 7) (fun _ _ => rfl)) (pe_strS [45] (by rfl)) (nomark _)) (pw_and1 (pt_cmpR op_ge (pv 2) pe_int (nomark _))))) (pss_one (ps_set (i := 8) sc.nd rfl (Or.inl rfl) (pe_ix (ix_list_k (K := K)) (pe_lst (pa_cons (pe_ix ix_str (pv 0) (pv 7) (fun _ _ => rfl)) (pa_cons (pe_strS [45] (by rfl)) pa_nil))) (pe_callTy cr_int (by rfl) T.b_int (by decide +kernel) (pa_cons (pe_and (pe_cmpR op_eq (pe_ix (ix_list_k (K := K)) (pv 5) (pv 7) (fun _ _ => rfl)) pe_int (nomark _)) (pe_one (pe_or (pe_cmpR op_lt (pv 2) pe_int (nomark _)) (pe_one (pe_cmpR op_eq (pv 2) pe_int (nomark _)))))) pa_nil)) (fun _ _ => rfl)))) pss_nil)
    (pss_cons (ps_if (PW.pt (pw_and (pt_cmpR op_eq (pe_ix ix_str (pv 0) (pv 7) (fun _ _ => rfl)) (pe_strS [45] (by rfl)) (nomark _)) (pw_and1 (pt_cmpR op_ge (pv 2) pe_int (nomark _))))) (pss_one (ps_set (i := 8) sc.nd rfl (Or.inl rfl) (pe_strS [45] (by rfl)))) pss_nil)
    (pss_cons (ps_if (PW.pt (pw_and (pt_cmpR op_eq (pv 7) (pv 3) (nomark _)) (pw_and1 (pt_cmpR (op_in_k (K := K)) (pv 2) (pe_tup (pa_cons pe_int (pa_cons pe_int (pa_cons pe_int pa_nil)))) rfl)))) (pss_one (ps_set (i := 8) sc.nd rfl (Or.inl rfl) (pe_callH C__law_other (hr.mono (by decide)) (pa_cons (pe_ix ix_str (pv 0) (pv 7) (fun _ _ => rfl)) (pa_cons (pv 4) pa_nil))))) pss_nil)
    (pss_cons (ps_if (PW.pt (pw_and (pt_cmpR op_eq (pv 7) (pv 3) (nomark _)) (pw_and1 (pt_cmpR op_eq (pv 2) pe_int (nomark _))))) (pss_one (ps_set (i := 8) sc.nd rfl (Or.inl rfl) (pe_strS [45] (by rfl)))) pss_nil)
    (pss_one (ps_set (i := 6) sc.nd rfl (Or.inl rfl) (pe_op op_addS (pv 6) (pv 8))))))))))
    (pss_one (ps_ret (pv 6))))), ?_⟩
  refine' a_setv (K := K) (x := .str (S [])) er_c ?g1
  intro H1 e1
  refine b_forR1 (K := K) (n := low.length) ?_ (by omega) (fun i σ' H' => ∃ y z, σ' = [some (.str (S low)), some (.str (S free)), some (.int mode), some (.int (place : Int)), some (.int step), some (.ref p), some (.str (S (secM low free mode place step turns i))), y, z] ∧ Ex H H') (fun H5 e5 => ⟨none, none, rfl, e1.trans e5⟩) ?_ ?_
  · walk_at "era"
  · rintro i σ' H' hi ⟨y, z, rfl, e⟩
    replace hs := hs.mono e
    refine' a_setv (K := K) (x := .str (S [free.getD i 0])) ?g2 ?g3
    case g2 =>
      refine' Er.to (K := K) ?g4 ?g5
      case g4 => walk_at "er"
      rw [Int.toNat_natCast]
    intro H2 e2
    replace hs := hs.mono e2
    refine' a_ifSetC (K := K) (e := free.getD i 0) ?g6 ?g7 ?g8 ?g9
    case g6 => walk_at "et"
    case g8 => rfl
    case g7 =>
      intro _
      refine' er_pickC ?g10 ?g11 ?g12
      case g10 => walk_at "er"
      case g11 => walk_at "er"
      case g12 => walk_at "er"
    intro H3 e3
    replace hs := hs.mono e3
    refine' a_ifSetC (K := K) ?g13 ?g14 ?g15 ?g16
    case g13 => walk_at "et"
    case g15 => rfl
    case g14 =>
      intro _
      walk_at "er"
    intro H4 e4
    replace hs := hs.mono e4
    refine' a_ifSetC (K := K) (c := otherM (low.getD i 0) step) ?g17 ?g18 ?g19 ?g20
    case g17 =>
      refine' et_an (K := K) (a := decide ((i : Int) = (place : Int))) ?g21 fun _ => et1 (er_op (d2 := .u (vis [3, 6, 9])) (er_v rfl) (er_tup (vs := vis [3, 6, 9]) (era_cons er_c (era_cons er_c (era_cons er_c era_nil))) (by decide)) ro_inUi)
      walk_at "et"
    case g19 => rfl
    case g18 =>
      intro _
      refine er_call (low.getD i 0, step) (ds := [.s (S [low.getD i 0]), .i step]) ?g22 rfl (h5 _ (getD_mem hi))
      refine era_cons (Er.to (er_op (er_v rfl) (er_v rfl) (ro_ixC (by omega) (by omega) (by omega))) ?g23) (era_cons (er_v rfl) era_nil)
      rw [Int.toNat_natCast]
    intro H5 e5
    replace hs := hs.mono e5
    refine' a_ifSetC (K := K) ?g24 ?g25 ?g26 ?g27
    case g24 => walk_at "et"
    case g26 => rfl
    case g25 =>
      intro _
      walk_at "er"
    intro H6 e6
    refine' a_setv1 (K := K) (x := .str (S (secM low free mode place step turns (i + 1)))) ?g28 ?g29
    case g28 =>
      refine' Er.to (K := K) (er_op (K := K) (d1 := .s (S (secM low free mode place step turns i))) (er_v rfl) (er_v rfl) (ro_addC ?g30)) ?g31
      case g30 =>
        rw [secM_len]
        simp
        omega
      show Dd.s (S _) = Dd.v (V.str (S (secM low free mode place step turns (i + 1))))
      unfold secM
      rw [List.range_succ, List.map_append, List.map_cons, List.map_nil]
      have e0 : secC low free mode place step turns i = (if (decide ((i : Int) = (place : Int)) && decide (mode = 5)) = true then 45 else if (decide ((i : Int) = (place : Int)) && decide (mode ∈ [3, 6, 9])) = true then otherM (low.getD i 0) step else if (decide ([low.getD ((i : Nat) : Int).toNat 0] = [45]) && decide (7 ≤ mode)) = true then 45 else if (!decide ([low.getD ((i : Nat) : Int).toNat 0] = [45]) && decide (2 ≤ mode)) = true then (if (decide (turns.getD ((i : Nat) : Int).toNat 0 = 1) && (decide (mode < 4) || decide (mode = 8))) = true then 45 else low.getD ((i : Nat) : Int).toNat 0) else free.getD i 0) := by
        unfold secC
        simp only [Int.toNat_natCast, Int.natCast_inj, List.cons.injEq, and_true]
      rw [e0]
    intro H7 e7
    exact ⟨_, _, rfl, (((((e.trans e2).trans e3).trans e4).trans e5).trans e6).trans e7⟩
  · rintro σ' H' ⟨y, z, rfl, e⟩
    exact a_rete (K := K) (er_v rfl) rfl e hk
end
end Mi

set_option maxHeartbeats 4000000
namespace Mi
open PySem PySem.Spec PyProof.Rows L2 Evl
local macro_rules | `(tactic| walk_at "side") => `(tactic| (first | assumption | omega | exact rfl | decide | (simp only [List.length_cons, List.length_nil, List.length_map, List.length_append, List.length_replicate] <;> omega)))
local macro_rules | `(tactic| walk_at "ro") => `(tactic| (first
  | with_reducible exact ro_I0
  | with_reducible exact ro_1018
  | with_reducible exact ro_neC
  | with_reducible exact ro_eqC
  | with_reducible exact ro_neI
  | with_reducible exact ro_eqI
  | with_reducible exact ro_neB
  | with_reducible exact ro_eqB
  | ((with_reducible apply ro_mod); (walk_at "side"))
  | ((with_reducible apply ro_div) <;> (walk_at "side"))
  | ((with_reducible apply ro_mulL) <;> (walk_at "side"))
  | ((with_reducible apply ro_mulR) <;> (walk_at "side"))
  | ((with_reducible apply ro_addC); (walk_at "side"))
  | ((with_reducible apply ro_ixC) <;> (walk_at "side"))
  | ((with_reducible apply ro_ixI) <;> (walk_at "side"))
  | ((with_reducible apply ro_ixIN) <;> (walk_at "side"))
  | ((with_reducible apply ro_ixT2) <;> (walk_at "side"))
  | ((with_reducible apply ro_ixG) <;> (walk_at "side"))
  | ((with_reducible apply ro_eq); exact rfl)
  | ((with_reducible apply ro_ne); exact rfl)
  | with_reducible exact ro_isN
  | with_reducible exact ro_notN
  | with_reducible exact ro_eqL
  | with_reducible exact ro_neL
  | with_reducible exact ro_eqU
  | ((with_reducible apply ro_cat); (walk_at "side"))
  | with_reducible exact ro_inLi
  | with_reducible exact ro_inNi
  | with_reducible exact ro_inUi
  | ((with_reducible apply ro_inL) <;> (walk_at "side"))
  | ((with_reducible apply ro_inN) <;> (walk_at "side"))
  | ((with_reducible apply ro_inU) <;> (walk_at "side"))))
local macro_rules | `(tactic| walk_at "rc") => `(tactic| (first
  | with_reducible exact rc_int
  | with_reducible exact rc_intB
  | with_reducible exact rc_max2
  | ((with_reducible apply rc_lenC); (walk_at "side"))
  | with_reducible exact rc_lenI
  | with_reducible exact rc_lenT
  | with_reducible exact rc_lenIN
  | with_reducible exact rc_lenTN
  | with_reducible exact rc_lenL
  | with_reducible exact rc_lenN
  | with_reducible exact rc_lenU
  | with_reducible exact rc_listL
  | with_reducible exact rc_listU
  | with_reducible exact rc_tupL
  | with_reducible exact rc_tupN
  | ((with_reducible apply rc_isi_int); decide +kernel)
  | ((with_reducible apply rc_isi_str); decide +kernel)
  | ((with_reducible apply rc_isi_bl); decide +kernel)
  | ((with_reducible apply rc_isi_non); decide +kernel)
  | ((with_reducible apply rc_isi_u); decide +kernel)
  | ((with_reducible apply rc_isi_l); decide +kernel)))
local macro_rules | `(tactic| walk_at "er") => `(tactic| (first
  | ((with_reducible apply er_var); (exact rfl); assumption)
  | ((with_reducible apply er_v); exact rfl)
  | with_reducible exact er_c
  | ((with_reducible apply er_pick); (walk_at "er"); (walk_at "er"); (walk_at "er"))
  | ((with_reducible apply er_op); (walk_at "er"); (walk_at "er"); (walk_at "ro"))
  | ((with_reducible apply er_cb); (walk_at "era"); (walk_at "rc"))
  | ((with_reducible apply er_lst'); (walk_at "era"); (exact rfl); (walk_at "side"))
  | ((with_reducible apply er_tup'); (walk_at "era"); (exact rfl); (walk_at "side"))
  | ((with_reducible apply er_notV); (walk_at "er"))
  | ((with_reducible apply er_andV); (walk_at "er"); (intro _; (walk_at "er")))
  | ((with_reducible apply er_orV); (walk_at "er"); (intro _; (walk_at "er")))
  | ((with_reducible apply er_ite); (walk_at "et"); (intro _; (walk_at "er")); (intro _; (walk_at "er")))))
local macro_rules | `(tactic| walk_at "era") => `(tactic| (first
  | with_reducible exact era_nil
  | ((with_reducible apply era_cons); (walk_at "er"); (walk_at "era"))))
local macro_rules | `(tactic| walk_at "et") => `(tactic| (first
  | ((with_reducible apply et_an); (walk_at "et"); (intro _; (walk_at "et")))
  | ((with_reducible apply et_orr); (walk_at "et"); (intro _; (walk_at "et")))
  | ((with_reducible apply et_nt); (walk_at "et"))
  | ((with_reducible apply et1); (walk_at "er"))
  | ((with_reducible apply et2); (walk_at "er"))))

section
variable {P : Program} {w : World} {K : PySem.W.Frag} {mg : Str → Option Value} {base : Heap} {tD tO : Tok}

abbrev s__law_layers : Stmt := topS 23
theorem sc__law_layers : FnScope ["script", "at", "inks", "wide", "many", "layers", "k", "spots", "text"] ["script", "at", "inks", "wide", "many"] (defScope s__law_layers) := ⟨rfl, rfl, rfl, by decide +kernel, rfl, by decide +kernel, by decide +kernel⟩

def szL : List Int := [4, 40, 840, 28, 5] ++ List.replicate 30 112
theorem szL_len : szL.length = 35 := rfl
theorem szL_bd : ∀ s ∈ szL, 0 < s ∧ s < 1000000 := by decide
def textS (ik : List Nat) (wide : Nat) (L : List (List Nat)) (k : Nat) (sp : List Int) : List Nat :=
  if (decide (0 < (k : Int)) && decide (sp.getD 0 0 = 1)) = true then closeM (L.getD (sp.getD 1 0 % (k : Int)).toNat []) (sp.getD 2 0 % (wide : Int)).toNat (sp.getD 3 0)
  else if (decide (0 < (k : Int)) && decide (sp.getD 0 0 = 0)) = true then L.getD (sp.getD 1 0 % (k : Int)).toNat []
  else layerM ik (sp.getD 4 0) (sp.drop 5) wide
def textM (ns : List Int) (at_ : Nat) (ik : List Nat) (wide : Nat) (L : List (List Nat)) (k : Nat) : List Nat := textS ik wide L k (drawM ns (at_ + k) szL)
def layersM (ns : List Int) (at_ : Nat) (ik : List Nat) (wide : Nat) : Nat → List (List Nat)
  | 0 => []
  | k + 1 => layersM ns at_ ik wide k ++ [textM ns at_ ik wide (layersM ns at_ ik wide k) k]
def Good (wide : Nat) (l : List Nat) : Prop := l.length = wide ∧ ∀ c ∈ l, c ∈ signs
theorem layersM_len {ns : List Int} {at_ : Nat} {ik : List Nat} {wide : Nat} : ∀ k, (layersM ns at_ ik wide k).length = k
  | 0 => rfl
  | k + 1 => by
    show (layersM ns at_ ik wide k ++ [_]).length = k + 1
    rw [List.length_append, layersM_len k]
    rfl
theorem layerM_ok {ik : List Nat} {share : Int} {sp : List Int} {wide : Nat} (h1 : 1 ≤ ik.length) (hi : ∀ c ∈ ik, c ∈ signs) : Good wide (layerM ik share sp wide) := by
  refine ⟨layerM_len .., fun c hc => ?_⟩
  unfold layerM at hc
  obtain ⟨k, _, rfl⟩ := List.mem_map.mp hc
  split
  · have h0 : 0 ≤ sp.getD k 0 / 4 % (ik.length : Int) := Int.emod_nonneg _ (by omega)
    have h2 : sp.getD k 0 / 4 % (ik.length : Int) < (ik.length : Int) := Int.emod_lt_of_pos _ (by omega)
    exact hi _ (getD_memL (by omega))
  · decide
theorem closeM_ok {l : List Nat} {pl wide : Nat} {num : Int} (h : Good wide l) (hp : pl < wide) : Good wide (closeM l pl num) := by
  obtain ⟨h1, h2⟩ := h
  refine ⟨by rw [closeM_len (by omega), h1], fun c hc => ?_⟩
  unfold closeM at hc
  rcases List.mem_append.mp hc with hc | hc
  · rcases List.mem_append.mp hc with hc | hc
    · exact h2 c (List.mem_of_mem_take hc)
    · rw [List.mem_singleton.mp hc]
      have ls : signs.length = 28 := rfl
      exact getD_memL (by rw [ls]; omega)
  · exact h2 c (List.mem_of_mem_drop hc)
theorem textM_ok {ns : List Int} {at_ : Nat} {ik : List Nat} {wide : Nat} {L : List (List Nat)} {k : Nat} (h1 : 1 ≤ ik.length) (hi : ∀ c ∈ ik, c ∈ signs) (hw : 1 ≤ wide) (hL : ∀ l ∈ L, Good wide l) (hl : L.length = k) : Good wide (textM ns at_ ik wide L k) := by
  unfold textM
  generalize drawM ns (at_ + k) szL = sp
  have q1 : 0 < k → sp.getD 1 0 % (k : Int) < (k : Int) := fun h => Int.emod_lt_of_pos _ (by omega)
  have q0 : 0 < k → 0 ≤ sp.getD 1 0 % (k : Int) := fun h => Int.emod_nonneg _ (by omega)
  have q2 : sp.getD 2 0 % (wide : Int) < (wide : Int) := Int.emod_lt_of_pos _ (by omega)
  have q3 : 0 ≤ sp.getD 2 0 % (wide : Int) := Int.emod_nonneg _ (by omega)
  have pick : 0 < k → Good wide (L.getD (sp.getD 1 0 % (k : Int)).toNat []) := fun h => hL _ (getD_memL (by have := q1 h; have := q0 h; omega))
  unfold textS
  split
  · next h =>
    simp only [Bool.and_eq_true, decide_eq_true_eq] at h
    exact closeM_ok (pick (by omega)) (by omega)
  · split
    · next h =>
      simp only [Bool.and_eq_true, decide_eq_true_eq] at h
      exact pick (by omega)
    · exact layerM_ok h1 hi
theorem layersM_ok {ns : List Int} {at_ : Nat} {ik : List Nat} {wide : Nat} (h1 : 1 ≤ ik.length) (hi : ∀ c ∈ ik, c ∈ signs) (hw : 1 ≤ wide) : ∀ k, ∀ l ∈ layersM ns at_ ik wide k, Good wide l
  | 0, l, h => by cases h
  | k + 1, l, h => by
    rcases List.mem_append.mp h with h | h
    · exact layersM_ok h1 hi hw k l h
    · rw [List.mem_singleton.mp h]
      exact textM_ok h1 hi hw (layersM_ok h1 hi hw k) (layersM_len k)
abbrev sp__law_layers (K : PySem.W.Frag) : Sp := spR K (fun a : List Int × Nat × List Nat × Nat × Nat => a.1.length ≤ 63 ∧ a.2.1 ≤ 100 ∧ (1 ≤ a.2.2.1.length ∧ a.2.2.1.length ≤ 27 ∧ ∀ c ∈ a.2.2.1, c ∈ signs) ∧ (1 ≤ a.2.2.2.1 ∧ a.2.2.2.1 ≤ 30) ∧ a.2.2.2.2 ≤ 100) (fun a => [.l (vis a.1), .i (a.2.1 : Int), .s (S a.2.2.1), .i (a.2.2.2.1 : Int), .i (a.2.2.2.2 : Int)]) fun a => .n (vsl (layersM a.1 a.2.1 a.2.2.1 a.2.2.2.1 a.2.2.2.2))
theorem has__law_layers (T : Txt K mg tD tO) (h : At K mg "_law_layers" s__law_layers ["script", "at", "inks", "wide", "many"]) (C__law_draw : Has P w K mg base 2 "_law_draw" ["script", "k", "sizes"] (sp__law_draw K)) (C__law_layer : Has P w K mg base 1 "_law_layer" ["inks", "share", "spots", "wide"] (sp__law_layer K)) (C__law_close : Has P w K mg base 1 "_law_close" ["text", "place", "number"] (sp__law_close K)) : Has P w K mg base 3 "_law_layers" ["script", "at", "inks", "wide", "many"] (sp__law_layers K) := by
  refine h.hasR sc__law_layers (fun _ => rfl) fun f cdv A outer s H a vs Q E hr hp hv hk => ?_
  obtain ⟨ns, at_, ik, wide, many⟩ := a
  obtain ⟨h1, h2, ⟨h3, h4, h5⟩, ⟨h6, h7⟩, h8⟩ := hp
  replace h1 : ns.length ≤ 63 := h1
  replace h2 : at_ ≤ 100 := h2
  replace h3 : 1 ≤ ik.length := h3
  replace h4 : ik.length ≤ 27 := h4
  replace h5 : ∀ c ∈ ik, c ∈ signs := h5
  replace h6 : 1 ≤ wide := h6
  replace h7 : wide ≤ 30 := h7
  replace h8 : many ≤ 100 := h8
  rcases hv with _ | ⟨⟨p, rfl, hS⟩, _ | ⟨rfl, _ | ⟨rfl, _ | ⟨rfl, _ | ⟨rfl, _ | _⟩⟩⟩⟩⟩
  have hs : Is K H (.l (vis ns)) (.ref p) := ⟨p, rfl, hS⟩
  have sc := sc__law_layers
  refine ⟨_, (pss_cons (ps_set (i := 5) sc.nd rfl (Or.inl rfl) (pe_lst pa_nil))
    (pss_cons (ps_for PassesOwn.never rfl (pi_range1 (by rfl) T.b_range (pa_cons (pv 4) pa_nil)) (pg_name (i := 6) sc.nd rfl (Or.inl rfl)) (pss_cons (ps_set (i := 7) sc.nd rfl (Or.inl rfl) (pe_callH C__law_draw (hr.mono (by decide)) (pa_cons (pv 0) (pa_cons (pe_op op_add (pv 1) (pv 6)) (pa_cons (pe_op op_cat (pe_lst (pa_cons pe_int (pa_cons pe_int (pa_cons pe_int (pa_cons pe_int (pa_cons pe_int pa_nil)))))) (pe_op op_rep (pe_lst (pa_cons pe_int pa_nil)) pe_int)) pa_nil)))))
    (pss_cons (ps_set (i := 8) sc.nd rfl (Or.inl rfl) (pe_callH C__law_layer (hr.mono (by decide)) (pa_cons (pv 2) (pa_cons (pe_ix (ix_list_k (K := K)) (pv 7) pe_int (fun _ _ => rfl)) (pa_cons (pe_slice (sl_list_k (K := K)) (pv 7) (po_some pe_int) po_none) (pa_cons (pv 3) pa_nil))))))
    (pss_cons (ps_if (PW.pt (pw_and (pt_cmpR op_gt (pv 6) pe_int (nomark _)) (pw_and1 (pt_cmpR op_eq (pe_ix (ix_list_k (K := K)) (pv 7) pe_int (fun _ _ => rfl)) pe_int (nomark _))))) (pss_one (ps_set (i := 8) sc.nd rfl (Or.inl rfl) (pe_ix (ix_list_k (K := K)) (pv 5) (pe_op op_mod (pe_ix (ix_list_k (K := K)) (pv 7) pe_int (fun _ _ => rfl)) (pv 6)) (fun _ _ => rfl)))) pss_nil)
    (pss_cons (ps_if (PW.pt (pw_and (pt_cmpR op_gt (pv 6) pe_int (nomark _)) (pw_and1 (pt_cmpR op_eq (pe_ix (ix_list_k (K := K)) (pv 7) pe_int (fun _ _ => rfl)) pe_int (nomark _))))) (pss_one (ps_set (i := 8) sc.nd rfl (Or.inl rfl) (pe_callH C__law_close (hr.mono (by decide)) (pa_cons (pe_ix (ix_list_k (K := K)) (pv 5) (pe_op op_mod (pe_ix (ix_list_k (K := K)) (pv 7) pe_int (fun _ _ => rfl)) (pv 6)) (fun _ _ => rfl)) (pa_cons (pe_op op_mod (pe_ix (ix_list_k (K := K)) (pv 7) pe_int (fun _ _ => rfl)) (pv 3)) (pa_cons (pe_ix (ix_list_k (K := K)) (pv 7) pe_int (fun _ _ => rfl)) pa_nil)))))) pss_nil)
    (pss_one (ps_expr (pe_bm_k (K := K) PySem.F.plainAttrs_list PySem.F.slot_list_append PySem.F.type_list_append mt_append (pv 5) (pa_cons (pv 8) pa_nil)))))))))
    (pss_one (ps_ret (pv 5))))), ?_⟩
  refine a_new fun o H1 ho e1 q1 => ?_
  refine b_forR1 (K := K) (n := many) ?_ (by omega) (fun i σ' H' => ∃ y z u, σ' = [some (.ref p), some (.int (at_ : Int)), some (.str (S ik)), some (.int (wide : Int)), some (.int (many : Int)), some (.ref o), y, z, u] ∧ Ex H H' ∧ H' o = some (.lst (vsl (layersM ns at_ ik wide i)))) (fun H5 e5 => ⟨none, none, none, rfl, e1.trans e5, e5 o _ q1⟩) ?_ ?_
  · walk_at "era"
  · rintro i σ' H' hi ⟨y, z, u, rfl, e, hO⟩
    have hs1 := hs.mono e
    have hL := layersM_ok (ns := ns) (at_ := at_) h3 h5 h6 i
    have hLl := layersM_len (ns := ns) (at_ := at_) (ik := ik) (wide := wide) i
    have hnx : layersM ns at_ ik wide (i + 1) = layersM ns at_ ik wide i ++ [textM ns at_ ik wide (layersM ns at_ ik wide i) i] := rfl
    generalize layersM ns at_ ik wide i = L at hO hL hLl hnx
    refine' a_asg (K := K) (er_call (K := K) (ns, at_ + i, szL) ?g1 rfl ⟨h1, by show at_ + i ≤ 1000; omega, by show szL.length ≤ 1000; decide, szL_bd⟩) ?g2
    case g1 =>
      refine era_cons (er_var rfl hs1) (era_cons (Er.to (er_op (er_v rfl) (er_v rfl) ro_I0) ?g3) (era_cons (Er.n2l (Er.to (er_op (er_lst (vs := vis [4, 40, 840, 28, 5]) ?g4 (by decide)) (er_same (k := 30) er_c (by decide)) (ro_cat (by simp))) ?g5)) era_nil))
      case g3 => rfl
      case g4 => exact era_cons er_c (era_cons er_c (era_cons er_c (era_cons er_c (era_cons er_c era_nil))))
      case g5 => rfl
    intro v H2 e2 hv2
    obtain ⟨ps, rfl, hps⟩ := hv2
    replace hps : H2 ps = some (.lst (vis (drawM ns (at_ + i) szL))) := hps
    have hspl : (drawM ns (at_ + i) szL).length = 35 := by rw [drawM_len]; rfl
    have htx : textM ns at_ ik wide L i = textS ik wide L i (drawM ns (at_ + i) szL) := rfl
    generalize drawM ns (at_ + i) szL = sp at hps hspl htx
    have hsp : Is K H2 (.n (vis sp)) (.ref ps) := ⟨ps, rfl, hps⟩
    have hs2 := hs1.mono e2
    refine' a_setv (K := K) (x := .str (S (layerM ik (sp.getD 4 0) (sp.drop 5) wide))) (er_call (K := K) (ik, sp.getD 4 0, sp.drop 5, wide) ?g6 rfl ⟨h3, h4, ?g7, ?g8, h7⟩) ?g9
    case g6 => exact era_cons (er_v rfl) (era_cons (Er.to (er_op (er_var rfl hsp) er_c (ro_ixIN (by decide) (by omega))) rfl) (era_cons (Er.n2l (er_slvFrom (n := 5) (Er.n2l (er_var rfl hsp)) er_c)) (era_cons (er_v rfl) era_nil)))
    case g7 =>
      show (sp.drop 5).length ≤ 1000
      rw [List.length_drop]
      omega
    case g8 =>
      show wide ≤ (sp.drop 5).length
      rw [List.length_drop]
      omega
    intro H3 e3
    replace hsp := hsp.mono e3
    have hO3 := e3 o _ (e2 o _ hO)
    have hLo : Is K H3 (.n (vsl L)) (.ref o) := ⟨o, rfl, hO3⟩
    refine' a_ifSetS (K := K) (c := L.getD (sp.getD 1 0 % (i : Int)).toNat []) ?g10 ?g11 ?g12 ?g13
    case g10 => walk_at "et"
    case g12 => rfl
    case g11 =>
      intro hb
      have hb' : 0 < (i : Int) := by
        rw [Bool.and_eq_true] at hb
        exact of_decide_eq_true hb.1
      have q1 : sp.getD 1 0 % (i : Int) < (i : Int) := Int.emod_lt_of_pos _ hb'
      have q0 : 0 ≤ sp.getD 1 0 % (i : Int) := Int.emod_nonneg _ (by omega)
      exact er_op (d2 := .i (sp.getD 1 0 % (i : Int))) (er_var rfl hLo) (er_op (d1 := .i (sp.getD 1 0)) (d2 := .i (i : Int)) (er_op (er_var rfl hsp) er_c (ro_ixIN (by decide) (by omega))) (er_v rfl) (ro_mod hb')) (ro_ixSN q0 (by rw [hLl]; exact q1))
    intro H4 e4
    replace hsp := hsp.mono e4
    replace hLo := hLo.mono e4
    refine' a_ifSetS (K := K) (c := closeM (L.getD (sp.getD 1 0 % (i : Int)).toNat []) (sp.getD 2 0 % (wide : Int)).toNat (sp.getD 3 0)) ?g14 ?g15 ?g16 ?g17
    case g14 => walk_at "et"
    case g16 => rfl
    case g15 =>
      intro hb
      have hb' : 0 < (i : Int) := by
        rw [Bool.and_eq_true] at hb
        exact of_decide_eq_true hb.1
      have q1 : sp.getD 1 0 % (i : Int) < (i : Int) := Int.emod_lt_of_pos _ hb'
      have q0 : 0 ≤ sp.getD 1 0 % (i : Int) := Int.emod_nonneg _ (by omega)
      have q2 : sp.getD 2 0 % (wide : Int) < (wide : Int) := Int.emod_lt_of_pos _ (by omega)
      have q3 : 0 ≤ sp.getD 2 0 % (wide : Int) := Int.emod_nonneg _ (by omega)
      obtain ⟨gl, gm⟩ := hL (L.getD (sp.getD 1 0 % (i : Int)).toNat []) (getD_memL (by omega))
      have ec : (((sp.getD 2 0 % (wide : Int)).toNat : Nat) : Int) = sp.getD 2 0 % (wide : Int) := Int.toNat_of_nonneg q3
      refine er_call (K := K) (L.getD (sp.getD 1 0 % (i : Int)).toNat [], (sp.getD 2 0 % (wide : Int)).toNat, sp.getD 3 0) (ds := [.s (S (L.getD (sp.getD 1 0 % (i : Int)).toNat [])), .i (sp.getD 2 0 % (wide : Int)), .i (sp.getD 3 0)]) (era_cons ?g18 (era_cons ?g19 (era_cons ?g20 era_nil))) ?g21 ⟨?g22, ?g23, gm⟩
      case g18 => exact er_op (d2 := .i (sp.getD 1 0 % (i : Int))) (er_var rfl hLo) (er_op (d1 := .i (sp.getD 1 0)) (d2 := .i (i : Int)) (er_op (er_var rfl hsp) er_c (ro_ixIN (by decide) (by omega))) (er_v rfl) (ro_mod hb')) (ro_ixSN q0 (by rw [hLl]; exact q1))
      case g19 => exact er_op (d1 := .i (sp.getD 2 0)) (d2 := .i (wide : Int)) (er_op (er_var rfl hsp) er_c (ro_ixIN (by decide) (by omega))) (er_v rfl) (ro_mod (by omega))
      case g20 => exact er_op (er_var rfl hsp) er_c (ro_ixIN (by decide) (by omega))
      case g21 =>
        show _ = [Dd.s _, Dd.i (((sp.getD 2 0 % (wide : Int)).toNat : Nat) : Int), Dd.i _]
        rw [ec]
      case g22 =>
        show (L.getD (sp.getD 1 0 % (i : Int)).toNat []).length ≤ 30
        omega
      case g23 =>
        show (sp.getD 2 0 % (wide : Int)).toNat < (L.getD (sp.getD 1 0 % (i : Int)).toNat []).length
        omega
    intro H5 e5
    have hO5 := e5 o _ (e4 o _ hO3)
    refine' a_app (K := K) hO5 (er_v rfl) (er_v rfl) (by rw [vsl_len]; omega) ?g24
    intro H6 e6
    refine ⟨_, _, _, rfl, Ex.mut (((((e.trans e2).trans e3).trans e4).trans e5).trans e6) ho, ?_⟩
    rw [upd_same, hnx, htx, vsl_app]
    rfl
  · rintro σ' H' ⟨y, z, u, rfl, e, hO⟩
    exact a_rete (K := K) (er_var (K := K) (d := .n (vsl (layersM ns at_ ik wide many))) rfl ⟨o, rfl, hO⟩) rfl e hk
end
end Mi

set_option maxHeartbeats 4000000
namespace Mi
open PySem PySem.Spec PyProof.Rows L2 Evl
local macro_rules | `(tactic| walk_at "side") => `(tactic| (first | assumption | omega | exact rfl | decide | (simp only [List.length_cons, List.length_nil, List.length_map, List.length_append, List.length_replicate] <;> omega)))
local macro_rules | `(tactic| walk_at "ro") => `(tactic| (first
  | with_reducible exact ro_I0
  | with_reducible exact ro_1018
  | with_reducible exact ro_neC
  | with_reducible exact ro_eqC
  | with_reducible exact ro_neI
  | with_reducible exact ro_eqI
  | with_reducible exact ro_neB
  | with_reducible exact ro_eqB
  | ((with_reducible apply ro_mod); (walk_at "side"))
  | ((with_reducible apply ro_div) <;> (walk_at "side"))
  | ((with_reducible apply ro_mulL) <;> (walk_at "side"))
  | ((with_reducible apply ro_mulR) <;> (walk_at "side"))
  | ((with_reducible apply ro_addC); (walk_at "side"))
  | ((with_reducible apply ro_ixC) <;> (walk_at "side"))
  | ((with_reducible apply ro_ixI) <;> (walk_at "side"))
  | ((with_reducible apply ro_ixIN) <;> (walk_at "side"))
  | ((with_reducible apply ro_ixT2) <;> (walk_at "side"))
  | ((with_reducible apply ro_ixG) <;> (walk_at "side"))
  | ((with_reducible apply ro_eq); exact rfl)
  | ((with_reducible apply ro_ne); exact rfl)
  | with_reducible exact ro_isN
  | with_reducible exact ro_notN
  | with_reducible exact ro_eqL
  | with_reducible exact ro_neL
  | with_reducible exact ro_eqU
  | ((with_reducible apply ro_cat); (walk_at "side"))
  | with_reducible exact ro_inLi
  | with_reducible exact ro_inNi
  | with_reducible exact ro_inUi
  | ((with_reducible apply ro_inL) <;> (walk_at "side"))
  | ((with_reducible apply ro_inN) <;> (walk_at "side"))
  | ((with_reducible apply ro_inU) <;> (walk_at "side"))))
local macro_rules | `(tactic| walk_at "rc") => `(tactic| (first
  | with_reducible exact rc_int
  | with_reducible exact rc_intB
  | with_reducible exact rc_max2
  | ((with_reducible apply rc_lenC); (walk_at "side"))
  | with_reducible exact rc_lenI
  | with_reducible exact rc_lenT
  | with_reducible exact rc_lenIN
  | with_reducible exact rc_lenTN
  | with_reducible exact rc_lenL
  | with_reducible exact rc_lenN
  | with_reducible exact rc_lenU
  | with_reducible exact rc_listL
  | with_reducible exact rc_listU
  | with_reducible exact rc_tupL
  | with_reducible exact rc_tupN
  | ((with_reducible apply rc_isi_int); decide +kernel)
  | ((with_reducible apply rc_isi_str); decide +kernel)
  | ((with_reducible apply rc_isi_bl); decide +kernel)
  | ((with_reducible apply rc_isi_non); decide +kernel)
  | ((with_reducible apply rc_isi_u); decide +kernel)
  | ((with_reducible apply rc_isi_l); decide +kernel)))
local macro_rules | `(tactic| walk_at "er") => `(tactic| (first
  | ((with_reducible apply er_var); (exact rfl); assumption)
  | ((with_reducible apply er_v); exact rfl)
  | with_reducible exact er_c
  | ((with_reducible apply er_pick); (walk_at "er"); (walk_at "er"); (walk_at "er"))
  | ((with_reducible apply er_op); (walk_at "er"); (walk_at "er"); (walk_at "ro"))
  | ((with_reducible apply er_cb); (walk_at "era"); (walk_at "rc"))
  | ((with_reducible apply er_lst'); (walk_at "era"); (exact rfl); (walk_at "side"))
  | ((with_reducible apply er_tup'); (walk_at "era"); (exact rfl); (walk_at "side"))
  | ((with_reducible apply er_notV); (walk_at "er"))
  | ((with_reducible apply er_andV); (walk_at "er"); (intro _; (walk_at "er")))
  | ((with_reducible apply er_orV); (walk_at "er"); (intro _; (walk_at "er")))
  | ((with_reducible apply er_ite); (walk_at "et"); (intro _; (walk_at "er")); (intro _; (walk_at "er")))))
local macro_rules | `(tactic| walk_at "era") => `(tactic| (first
  | with_reducible exact era_nil
  | ((with_reducible apply era_cons); (walk_at "er"); (walk_at "era"))))
local macro_rules | `(tactic| walk_at "et") => `(tactic| (first
  | ((with_reducible apply et_an); (walk_at "et"); (intro _; (walk_at "et")))
  | ((with_reducible apply et_orr); (walk_at "et"); (intro _; (walk_at "et")))
  | ((with_reducible apply et_nt); (walk_at "et"))
  | ((with_reducible apply et1); (walk_at "er"))
  | ((with_reducible apply et2); (walk_at "er"))))

section
variable {P : Program} {w : World} {K : PySem.W.Frag} {mg : Str → Option Value} {base : Heap} {tD tO : Tok}

abbrev s__law_agree : Stmt := topS 24
theorem sc__law_agree : FnScope ["low", "high", "k"] ["low", "high"] (defScope s__law_agree) := ⟨rfl, rfl, rfl, by decide +kernel, rfl, by decide +kernel, by decide +kernel⟩

theorem get_getD {l : List Nat} {k : Nat} (h : k < l.length) : l[k]? = some (l.getD k 0) := by
  rw [List.getD_eq_getElem?_getD, List.getElem?_eq_getElem h]
  rfl
abbrev sp__law_agree (K : PySem.W.Frag) : Sp := spR K (fun a : List Nat × List Nat => a.1.length = a.2.length ∧ a.1.length ≤ 1000) (fun a => [.s (S a.1), .s (S a.2)]) fun a => .b (agreeM a.1 a.2)
theorem has__law_agree (T : Txt K mg tD tO) (h : At K mg "_law_agree" s__law_agree ["low", "high"]) : Has P w K mg base 1 "_law_agree" ["low", "high"] (sp__law_agree K) := by
  refine h.hasR sc__law_agree (fun _ => rfl) fun f cdv A outer s H a vs Q E hr hp hv hk => ?_
  obtain ⟨low, high⟩ := a
  obtain ⟨h1, h2⟩ := hp
  replace h1 : low.length = high.length := h1
  replace h2 : low.length ≤ 1000 := h2
  rcases hv with _ | ⟨rfl, _ | ⟨rfl, _ | _⟩⟩
  have sc := sc__law_agree
  refine ⟨_, (pss_cons (ps_for PassesOwn.never rfl (pi_range1 (by rfl) T.b_range (pa_cons (pe_callB cr_lenStr (by rfl) T.b_len (by decide +kernel) (pa_cons (pv 0) pa_nil)) pa_nil)) (pg_name (i := 2) sc.nd rfl (Or.inl rfl)) (pss_one (ps_if (PW.pt (pw_and (pt_cmpR op_ne (pe_ix ix_str (pv 0) (pv 2) (fun _ _ => rfl)) (pe_strS [45] (by rfl)) (nomark _)) (pw_and (pt_cmpR op_ne (pe_ix ix_str (pv 1) (pv 2) (fun _ _ => rfl)) (pe_strS [45] (by rfl)) (nomark _)) (pw_and1 (pt_cmpR op_ne (pe_ix ix_str (pv 0) (pv 2) (fun _ _ => rfl)) (pe_ix ix_str (pv 1) (pv 2) (fun _ _ => rfl)) (nomark _)))))) (pss_one (ps_ret pe_bl)) pss_nil)))
    (pss_one (ps_ret pe_bl))), ?_⟩
  refine b_forR1 (K := K) (n := low.length) ?_ (by omega) (fun i σ' H' => ∃ y, σ' = [some (.str (S low)), some (.str (S high)), y] ∧ Ex H H' ∧ ((low.zip high).take i).all okP = true) (fun H5 e5 => ⟨none, rfl, e5, rfl⟩) ?_ ?_
  · walk_at "era"
  · rintro i σ' H' hi ⟨y, rfl, e, hM⟩
    refine' a_when1 (K := K) ?g1 ?g2 ?g3
    case g1 => walk_at "et"
    case g2 =>
      intro hb H3 e3
      refine' a_rete (K := K) er_c ?g4 (e.trans e3) hk
      have e0 : agreeM low high = false := all_not (zip_at (get_getD hi) (get_getD (by omega : i < high.length))) (by simp at hb; simp [okP]; omega)
      show Dd.b false = Dd.b (agreeM low high)
      rw [e0]
    case g3 =>
      intro hb H3 e3
      refine ⟨_, rfl, e.trans e3, ?_⟩
      rw [all_next (zip_at (get_getD hi) (get_getD (by omega : i < high.length))), hM]
      simp at hb
      simp [okP]
      omega
  · rintro σ' H' ⟨y, rfl, e, hM⟩
    refine' a_rete (K := K) er_c ?g5 e hk
    have e1 : low.length = (low.zip high).length := by rw [List.length_zip]; omega
    rw [e1, all_end] at hM
    show Dd.b true = Dd.b (agreeM low high)
    rw [show agreeM low high = true from hM]

abbrev s__law_press : Stmt := topS 29
theorem sc__law_press : FnScope ["low", "high", "k"] ["low", "high"] (defScope s__law_press) := ⟨rfl, rfl, rfl, by decide +kernel, rfl, by decide +kernel, by decide +kernel⟩

theorem zip_range {α : Type} {low high : List Nat} (h : low.length = high.length) (f : Nat × Nat → α) : (low.zip high).map f = (List.range low.length).map fun k => f (low.getD k 0, high.getD k 0) := by
  refine List.ext_getElem (by simp; omega) fun i h1 h2 => ?_
  simp at h1 h2 ⊢
  congr 1
  rw [List.getElem?_eq_getElem (by omega), List.getElem?_eq_getElem (by omega)]
  rfl
abbrev sp__law_press (K : PySem.W.Frag) : Sp := spR K (fun a : List Nat × List Nat => a.1.length = a.2.length ∧ a.1.length ≤ 1000) (fun a => [.s (S a.1), .s (S a.2)]) fun a => .s (S (pressM a.1 a.2))
theorem has__law_press (T : Txt K mg tD tO) (h : At K mg "_law_press" s__law_press ["low", "high"]) : Has P w K mg base 1 "_law_press" ["low", "high"] (sp__law_press K) := by
  refine h.hasR sc__law_press (fun _ => rfl) fun f cdv A outer s H a vs Q E hr hp hv hk => ?_
  obtain ⟨low, high⟩ := a
  obtain ⟨h1, h2⟩ := hp
  replace h1 : low.length = high.length := h1
  replace h2 : low.length ≤ 1000 := h2
  rcases hv with _ | ⟨rfl, _ | ⟨rfl, _ | _⟩⟩
  have sc := sc__law_press
  refine ⟨_, (pss_one (ps_ret (pe_bm_k (K := K) PySem.F.plainAttrs_str PySem.F.slot_str_join PySem.F.type_str_join (mt_join_k (K := K)) (pe_strS [] (by rfl)) (pa_cons (pe_lc (own := [("k", 2)]) (g := gName 2) (by rfl) sc.nd (pi_range1 (by rfl) T.b_range (pa_cons (pe_callB cr_lenStr (by rfl) T.b_len (by decide +kernel) (pa_cons (pv 0) pa_nil)) pa_nil)) (blkOk_by (N := ["low", "high", "k"]) (sc := defScope s__law_press) (own := [("k", 2)]) (by decide +kernel)) (fun _ _ _ _ _ => (pg_name (i := 2) sc.nd rfl (Or.inl rfl))) (fun _ _ _ _ _ => pts_nil) (fun _ _ _ _ _ => (pe_ix (ix_list_k (K := K)) (pe_lst (pa_cons (pe_ix ix_str (pv 1) (pv 2) (fun _ _ => rfl)) (pa_cons (pe_ix ix_str (pv 0) (pv 2) (fun _ _ => rfl)) pa_nil))) (pe_callTy cr_int (by rfl) T.b_int (by decide +kernel) (pa_cons (pe_cmpR op_eq (pe_ix ix_str (pv 1) (pv 2) (fun _ _ => rfl)) (pe_strS [45] (by rfl)) (nomark _)) pa_nil)) (fun _ _ => rfl)))) pa_nil)))), ?_⟩
  refine' a_rete (K := K) ?g1 rfl (Ex.refl H) hk
  refine er_bm (K := K) (d0 := .s (S [])) (ds := [.n ((pressM low high).map fun c => V.str (S [c]))]) er_c (era_cons (Er.to (er_lcR' (K := K) (n := low.length) (vs := [2]) (fun k => V.str (S [if high.getD k 0 = 45 then low.getD k 0 else high.getD k 0])) ?g2 (by omega) (fun _ => rfl) ?g3) ?g4) era_nil) (rm_joinC ?g5)
  case g2 => walk_at "era"
  case g3 =>
    intro i H1 e hi
    refine' Er.to (K := K) (er_pickC (c := high.getD i 0) (e := low.getD i 0) ?g6 ?g7 ?g8) ?g9
    case g6 => exact er_op (d1 := .s (S high)) (er_v rfl) (er_v rfl) (ro_ixC (by omega) (by omega) (by omega))
    case g7 => exact er_op (d1 := .s (S low)) (er_v rfl) (er_v rfl) (ro_ixC (by omega) (by omega) (by omega))
    case g8 => walk_at "er"
    rw [Int.toNat_natCast]
    by_cases hc : high.getD i 0 = 45
    · rw [if_pos hc, hc]; rfl
    · rw [if_neg hc, decide_eq_false (by simpa using hc)]; rfl
  case g4 => rw [pressM, zip_range h1, List.map_map]; rfl
  case g5 =>
    rw [pressM_len h1]
    omega

abbrev s__law_told : Stmt := topS 30
theorem sc__law_told : FnScope ["low", "high", "told"] ["low", "high"] (defScope s__law_told) := ⟨rfl, rfl, rfl, by decide +kernel, rfl, by decide +kernel, by decide +kernel⟩

abbrev sp__law_told (K : PySem.W.Frag) : Sp := spR K (fun a : List Nat × List Nat => a.1.length = a.2.length ∧ a.1.length ≤ 1000) (fun a => [.s (S a.1), .s (S a.2)]) fun a => .s (S (pressM a.1 a.2))
theorem has__law_told (T : Txt K mg tD tO) (h : At K mg "_law_told" s__law_told ["low", "high"]) (C_press : Has P w K mg base 1 "press" ["one", "two"] (sp_press K)) (C__law_press : Has P w K mg base 1 "_law_press" ["low", "high"] (sp__law_press K)) : Has P w K mg base 2 "_law_told" ["low", "high"] (sp__law_told K) := by
  refine h.hasR sc__law_told (fun _ => rfl) fun f cdv A outer s H a vs Q E hr hp hv hk => ?_
  obtain ⟨low, high⟩ := a
  rcases hv with _ | ⟨rfl, _ | ⟨rfl, _ | _⟩⟩
  have sc := sc__law_told
  refine ⟨_, (pss_cons (ps_set (i := 2) sc.nd rfl (Or.inl rfl) (pe_callH C_press (hr.mono (by decide)) (pa_cons (pv 0) (pa_cons (pv 1) pa_nil))))
    (pss_cons (ps_if (PW.pt (pw_or (pt_not (pt_val (pe_callB (cr_isi_k (K := K)) (by rfl) T.b_isinstance (by decide +kernel) (pa_cons (pv 2) (pa_cons (pe_bltn (v := .ty "str") (by rfl) T.b_str (by decide +kernel) rfl) pa_nil))))) (pw_or1 (pt_cmpR op_ne (pv 2) (pe_callH C__law_press (hr.mono (by decide)) (pa_cons (pv 0) (pa_cons (pv 1) pa_nil))) (nomark _))))) (pss_one (ps_ret pe_non)) pss_nil)
    (pss_one (ps_ret (pv 2))))), ?_⟩
  refine' a_setv (K := K) (x := .str (S (pressM low high))) (er_call (K := K) (low, high) ?g1 rfl hp.2) ?g2
  case g1 => walk_at "era"
  intro H1 e1
  refine' a_when (K := K) (b := (!true || !decide (pressM low high = pressM low high))) ?g3 ?g5 ?g6
  case g3 => exact et_orr (et_nt (et2 (by walk_at "er"))) fun _ => et1 (er_op (K := K) (d2 := .s (S (pressM low high))) (er_v rfl) (er_call (K := K) (low, high) (by walk_at "era") rfl hp) ro_neC)
  case g5 =>
    intro hb
    simp at hb
  case g6 =>
    intro hb H2 e2
    exact a_rete (K := K) (er_v rfl) rfl (e1.trans e2) hk

abbrev s__law_key : Stmt := topS 34
theorem sc__law_key : FnScope ["text"] ["text"] (defScope s__law_key) := ⟨rfl, rfl, rfl, by decide +kernel, rfl, by decide +kernel, by decide +kernel⟩

theorem has__law_key (T : Txt K mg tD tO) (h : At K mg "_law_key" s__law_key ["text"]) (C_layer_order : Has P w K mg base 1 "layer_order" ["one"] (sp_order K)) : Has P w K mg base 2 "_law_key" ["text"] (spId K) := by
  refine h.hasR sc__law_key (fun _ => rfl) fun f cdv A outer s H a vs Q E hr hp hv hk => ?_
  rcases hv with _ | ⟨rfl, _ | _⟩
  have sc := sc__law_key
  refine ⟨_, (pss_one (ps_ret (pe_callH1 C_layer_order (hr.mono (by decide)) (pv 0)))), ?_⟩
  exact a_rete (K := K) (er_call1 (K := K) a (er_v rfl) rfl trivial) rfl (Ex.refl H) hk

abbrev s__law_before : Stmt := topS 32
theorem sc__law_before : FnScope ["low", "high", "signs", "k"] ["low", "high"] (defScope s__law_before) := ⟨rfl, rfl, rfl, by decide +kernel, rfl, by decide +kernel, by decide +kernel⟩

theorem le_first : ∀ {a b : List Nat} {k : Nat}, a ≤ b → a.take k = b.take k → k < a.length → k < b.length → a.getD k 0 ≠ b.getD k 0 → a.getD k 0 < b.getD k 0
  | [], _, _, _, _, h, _, _ => by simp at h
  | _ :: _, [], _, _, _, _, h, _ => by simp at h
  | x :: r, y :: t, 0, h, _, _, _, hn => by
    rcases List.cons_le_cons_iff.mp h with h | ⟨h, _⟩
    · exact h
    · exact absurd h hn
  | x :: r, y :: t, k + 1, h, ht, h1, h2, hn => by
    rw [List.take_succ_cons, List.take_succ_cons] at ht
    have hxy : x = y := (List.cons.inj ht).1
    rcases List.cons_le_cons_iff.mp h with h | ⟨_, h⟩
    · exact absurd hxy (Nat.ne_of_lt h)
    · exact le_first (k := k) h (List.cons.inj ht).2 (by simpa using h1) (by simpa using h2) hn
theorem sign_lt : ∀ a ∈ signs, ∀ b ∈ signs, a < b → signs.idxOf a < signs.idxOf b := by decide +kernel
abbrev sp__law_before (K : PySem.W.Frag) : Sp := spR K (fun a : List Nat × List Nat => a.1.length = a.2.length ∧ a.1.length ≤ 1000 ∧ a.1 ≤ a.2 ∧ (∀ c ∈ a.1, c ∈ signs) ∧ ∀ c ∈ a.2, c ∈ signs) (fun a => [.s (S a.1), .s (S a.2)]) fun _ => .b true
theorem has__law_before (T : Txt K mg tD tO) (h : At K mg "_law_before" s__law_before ["low", "high"]) : Has P w K mg base 1 "_law_before" ["low", "high"] (sp__law_before K) := by
  refine h.hasR sc__law_before (fun _ => rfl) fun f cdv A outer s H a vs Q E hr hp hv hk => ?_
  obtain ⟨low, high⟩ := a
  obtain ⟨h1, h2, h3, h4, h5⟩ := hp
  replace h1 : low.length = high.length := h1
  replace h2 : low.length ≤ 1000 := h2
  replace h3 : low ≤ high := h3
  replace h4 : ∀ c ∈ low, c ∈ signs := h4
  replace h5 : ∀ c ∈ high, c ∈ signs := h5
  rcases hv with _ | ⟨rfl, _ | ⟨rfl, _ | _⟩⟩
  have sc := sc__law_before
  refine ⟨_, (pss_cons (ps_set (i := 2) sc.nd rfl (Or.inl rfl) (pe_strS [45, 46, 97, 98, 99, 100, 101, 102, 103, 104, 105, 106, 107, 108, 109, 110, 111, 112, 113, 114, 115, 116, 117, 118, 119, 120, 121, 122] (by rfl)))
    (pss_cons (ps_for PassesOwn.never rfl (pi_range1 (by rfl) T.b_range (pa_cons (pe_callB cr_lenStr (by rfl) T.b_len (by decide +kernel) (pa_cons (pv 0) pa_nil)) pa_nil)) (pg_name (i := 3) sc.nd rfl (Or.inl rfl)) (pss_one (ps_if (pt_cmpR op_ne (pe_ix ix_str (pv 0) (pv 3) (fun _ _ => rfl)) (pe_ix ix_str (pv 1) (pv 3) (fun _ _ => rfl)) (nomark _)) (pss_one (ps_ret (pe_cmpR op_lt (pe_bm_k (K := K) PySem.F.plainAttrs_str PySem.F.slot_str_index PySem.F.type_str_index mt_sindexN (pv 2) (pa_cons (pe_ix ix_str (pv 0) (pv 3) (fun _ _ => rfl)) pa_nil)) (pe_bm_k (K := K) PySem.F.plainAttrs_str PySem.F.slot_str_index PySem.F.type_str_index mt_sindexN (pv 2) (pa_cons (pe_ix ix_str (pv 1) (pv 3) (fun _ _ => rfl)) pa_nil)) (nomark _)))) pss_nil)))
    (pss_one (ps_ret pe_bl)))), ?_⟩
  refine' a_setv (K := K) (x := .str (S signs)) er_c ?g1
  intro H1 e1
  refine b_forR1 (K := K) (n := low.length) ?_ (by omega) (fun i σ' H' => ∃ y, σ' = [some (.str (S low)), some (.str (S high)), some (.str (S signs)), y] ∧ Ex H H' ∧ low.take i = high.take i) (fun H5 e5 => ⟨none, rfl, e1.trans e5, rfl⟩) ?_ ?_
  · walk_at "era"
  · rintro i σ' H' hi ⟨y, rfl, e, hM⟩
    have hi2 : i < high.length := by omega
    have m1 := h4 _ (getD_mem hi)
    have m2 := h5 _ (getD_mem hi2)
    refine' a_when1 (K := K) ?g2 ?g3 ?g4
    case g2 => walk_at "et"
    case g3 =>
      intro hb H3 e3
      have hb' : low.getD i 0 ≠ high.getD i 0 := by simpa using hb
      have hlt := sign_lt _ m1 _ m2 (le_first h3 hM hi hi2 hb')
      refine' a_rete (K := K) (er_op (K := K) (d1 := .i ((signs.idxOf (low.getD i 0) : Nat) : Int)) (d2 := .i ((signs.idxOf (high.getD i 0) : Nat) : Int)) ?g5 ?g6 ro_I0) ?g7 (e.trans e3) hk
      case g5 => exact er_bm (K := K) (d0 := .s (S signs)) (ds := [.s (S [low.getD i 0])]) (er_v rfl) (era_cons (Er.to (er_op (er_v rfl) (er_v rfl) (ro_ixC (by omega) (by omega) (by omega))) (by rw [Int.toNat_natCast])) era_nil) (rm_sindex (occ_signs _ m1))
      case g6 => exact er_bm (K := K) (d0 := .s (S signs)) (ds := [.s (S [high.getD i 0])]) (er_v rfl) (era_cons (Er.to (er_op (er_v rfl) (er_v rfl) (ro_ixC (by omega) (by omega) (by omega))) (by rw [Int.toNat_natCast])) era_nil) (rm_sindex (occ_signs _ m2))
      show Dd.v (.bl (decide _)) = Dd.b true
      rw [decide_eq_true]
      omega
    case g4 =>
      intro hb H3 e3
      have hb' : low.getD i 0 = high.getD i 0 := by simpa using hb
      refine ⟨_, rfl, e.trans e3, ?_⟩
      rw [List.take_add_one, List.take_add_one, hM, get_getD hi, get_getD hi2, hb']
  · rintro σ' H' ⟨y, rfl, e, hM⟩
    exact a_rete (K := K) er_c rfl e hk
end
end Mi

set_option maxHeartbeats 4000000
namespace Mi
open PySem PySem.Spec PyProof.Rows L2 Evl
local macro_rules | `(tactic| walk_at "side") => `(tactic| (first | assumption | omega | exact rfl | decide | (simp only [List.length_cons, List.length_nil, List.length_map, List.length_append, List.length_replicate] <;> omega)))
local macro_rules | `(tactic| walk_at "ro") => `(tactic| (first
  | with_reducible exact ro_I0
  | with_reducible exact ro_1018
  | with_reducible exact ro_neC
  | with_reducible exact ro_eqC
  | with_reducible exact ro_neI
  | with_reducible exact ro_eqI
  | with_reducible exact ro_neB
  | with_reducible exact ro_eqB
  | ((with_reducible apply ro_mod); (walk_at "side"))
  | ((with_reducible apply ro_div) <;> (walk_at "side"))
  | ((with_reducible apply ro_mulL) <;> (walk_at "side"))
  | ((with_reducible apply ro_mulR) <;> (walk_at "side"))
  | ((with_reducible apply ro_addC); (walk_at "side"))
  | ((with_reducible apply ro_ixC) <;> (walk_at "side"))
  | ((with_reducible apply ro_ixI) <;> (walk_at "side"))
  | ((with_reducible apply ro_ixIN) <;> (walk_at "side"))
  | ((with_reducible apply ro_ixT2) <;> (walk_at "side"))
  | ((with_reducible apply ro_ixG) <;> (walk_at "side"))
  | ((with_reducible apply ro_eq); exact rfl)
  | ((with_reducible apply ro_ne); exact rfl)
  | with_reducible exact ro_isN
  | with_reducible exact ro_notN
  | with_reducible exact ro_eqL
  | with_reducible exact ro_neL
  | with_reducible exact ro_eqU
  | ((with_reducible apply ro_cat); (walk_at "side"))
  | with_reducible exact ro_inLi
  | with_reducible exact ro_inNi
  | with_reducible exact ro_inUi
  | ((with_reducible apply ro_inL) <;> (walk_at "side"))
  | ((with_reducible apply ro_inN) <;> (walk_at "side"))
  | ((with_reducible apply ro_inU) <;> (walk_at "side"))))
local macro_rules | `(tactic| walk_at "rc") => `(tactic| (first
  | with_reducible exact rc_int
  | with_reducible exact rc_intB
  | with_reducible exact rc_max2
  | ((with_reducible apply rc_lenC); (walk_at "side"))
  | with_reducible exact rc_lenI
  | with_reducible exact rc_lenT
  | with_reducible exact rc_lenIN
  | with_reducible exact rc_lenTN
  | with_reducible exact rc_lenL
  | with_reducible exact rc_lenN
  | with_reducible exact rc_lenU
  | with_reducible exact rc_listL
  | with_reducible exact rc_listU
  | with_reducible exact rc_tupL
  | with_reducible exact rc_tupN
  | ((with_reducible apply rc_isi_int); decide +kernel)
  | ((with_reducible apply rc_isi_str); decide +kernel)
  | ((with_reducible apply rc_isi_bl); decide +kernel)
  | ((with_reducible apply rc_isi_non); decide +kernel)
  | ((with_reducible apply rc_isi_u); decide +kernel)
  | ((with_reducible apply rc_isi_l); decide +kernel)))
local macro_rules | `(tactic| walk_at "er") => `(tactic| (first
  | ((with_reducible apply er_var); (exact rfl); assumption)
  | ((with_reducible apply er_v); exact rfl)
  | with_reducible exact er_c
  | ((with_reducible apply er_pick); (walk_at "er"); (walk_at "er"); (walk_at "er"))
  | ((with_reducible apply er_op); (walk_at "er"); (walk_at "er"); (walk_at "ro"))
  | ((with_reducible apply er_cb); (walk_at "era"); (walk_at "rc"))
  | ((with_reducible apply er_lst'); (walk_at "era"); (exact rfl); (walk_at "side"))
  | ((with_reducible apply er_tup'); (walk_at "era"); (exact rfl); (walk_at "side"))
  | ((with_reducible apply er_notV); (walk_at "er"))
  | ((with_reducible apply er_andV); (walk_at "er"); (intro _; (walk_at "er")))
  | ((with_reducible apply er_orV); (walk_at "er"); (intro _; (walk_at "er")))
  | ((with_reducible apply er_ite); (walk_at "et"); (intro _; (walk_at "er")); (intro _; (walk_at "er")))))
local macro_rules | `(tactic| walk_at "era") => `(tactic| (first
  | with_reducible exact era_nil
  | ((with_reducible apply era_cons); (walk_at "er"); (walk_at "era"))))
local macro_rules | `(tactic| walk_at "et") => `(tactic| (first
  | ((with_reducible apply et_an); (walk_at "et"); (intro _; (walk_at "et")))
  | ((with_reducible apply et_orr); (walk_at "et"); (intro _; (walk_at "et")))
  | ((with_reducible apply et_nt); (walk_at "et"))
  | ((with_reducible apply et1); (walk_at "er"))
  | ((with_reducible apply et2); (walk_at "er"))))

section
variable {P : Program} {w : World} {K : PySem.W.Frag} {mg : Str → Option Value} {base : Heap} {tD tO : Tok}

abbrev s__law_ordered : Stmt := topS 33
theorem sc__law_ordered : FnScope ["found", "layers", "text", "k"] ["found", "layers"] (defScope s__law_ordered) := ⟨rfl, rfl, rfl, by decide +kernel, rfl, by decide +kernel, by decide +kernel⟩

structure Ordd (wide : Nat) (F L : List (List Nat)) : Prop where
  perm : F.Perm L
  one : 1 ≤ L.length
  few : L.length ≤ 100
  ord : F.Pairwise (· ≤ ·)
  good : ∀ l ∈ L, Good wide l
  wd : wide ≤ 30
abbrev sp__law_ordered (K : PySem.W.Frag) : Sp := spR K (fun a : List (List Nat) × List (List Nat) × Nat => Ordd a.2.2 a.1 a.2.1) (fun a => [.l (vsl a.1), .l (vsl a.2.1)]) fun _ => .b true
theorem has__law_ordered (T : Txt K mg tD tO) (h : At K mg "_law_ordered" s__law_ordered ["found", "layers"]) (C__law_before : Has P w K mg base 1 "_law_before" ["low", "high"] (sp__law_before K)) : Has P w K mg base 2 "_law_ordered" ["found", "layers"] (sp__law_ordered K) := by
  refine h.hasR sc__law_ordered (fun _ => rfl) fun f cdv A outer s H a vs Q E hr hp hv hk => ?_
  obtain ⟨F, L, wide⟩ := a
  replace hp : Ordd wide F L := hp
  rcases hv with _ | ⟨⟨pf, rfl, hF⟩, _ | ⟨⟨pl, rfl, hL⟩, _ | _⟩⟩
  have hf : Is K H (.l (vsl F)) (.ref pf) := ⟨pf, rfl, hF⟩
  have hl : Is K H (.l (vsl L)) (.ref pl) := ⟨pl, rfl, hL⟩
  have len : F.length = L.length := hp.perm.length_eq
  have one := hp.one
  have few := hp.few
  have wd := hp.wd
  have cnt : ∀ z, ((F.map S).count z : Nat) = (L.map S).count z := fun z => (hp.perm.map S).count_eq z
  have good : ∀ l ∈ F, Good wide l := fun l h => hp.good l (hp.perm.mem_iff.mp h)
  have sc := sc__law_ordered
  refine ⟨_, (pss_cons (ps_if (pt_cmpR op_ne (pe_callB (cr_len_k (K := K)) (by rfl) T.b_len (by decide +kernel) (pa_cons (pv 0) pa_nil)) (pe_callB (cr_len_k (K := K)) (by rfl) T.b_len (by decide +kernel) (pa_cons (pv 1) pa_nil)) (nomark _)) (pss_one (ps_ret pe_bl)) pss_nil)
    (pss_cons (ps_for PassesOwn.never rfl (pi_list_k (K := K) (pv 1)) (pg_name (i := 2) sc.nd rfl (Or.inl rfl)) (pss_one (ps_if (pt_cmpR op_ne (pe_bm_k (K := K) PySem.F.plainAttrs_list PySem.F.slot_list_count PySem.F.type_list_count (mt_count_k (K := K)) (pv 0) (pa_cons (pv 2) pa_nil)) (pe_bm_k (K := K) PySem.F.plainAttrs_list PySem.F.slot_list_count PySem.F.type_list_count (mt_count_k (K := K)) (pv 1) (pa_cons (pv 2) pa_nil)) (nomark _)) (pss_one (ps_ret pe_bl)) pss_nil)))
    (pss_cons (ps_for PassesOwn.never rfl (pi_range1 (by rfl) T.b_range (pa_cons (pe_op op_sub (pe_callB (cr_len_k (K := K)) (by rfl) T.b_len (by decide +kernel) (pa_cons (pv 0) pa_nil)) pe_int) pa_nil)) (pg_name (i := 3) sc.nd rfl (Or.inl rfl)) (pss_one (ps_if (pt_not (pt_val (pe_callH C__law_before (hr.mono (by decide)) (pa_cons (pe_ix (ix_list_k (K := K)) (pv 0) (pv 3) (fun _ _ => rfl)) (pa_cons (pe_ix (ix_list_k (K := K)) (pv 0) (pe_op op_add (pv 3) pe_int) (fun _ _ => rfl)) pa_nil))))) (pss_one (ps_ret pe_bl)) pss_nil)))
    (pss_one (ps_ret pe_bl))))), ?_⟩
  refine' a_when (K := K) (b := !decide ((F.length : Int) = (L.length : Int))) ?g1 ?g2 ?g3
  case g1 => exact et1 (er_op (er_cb (era_cons (er_var rfl hf) era_nil) rc_lenLL) (er_cb (era_cons (er_var rfl hl) era_nil) rc_lenLL) ro_neI)
  case g2 =>
    intro hb
    rw [len] at hb
    simp at hb
  case g3 =>
    intro hb H1 e1
    refine b_forA (K := K) (a := pl) (xs := vsl L) (er_v rfl) (ex_l e1 hL) (fun i σ' H' => ∃ y, σ' = [some (.ref pf), some (.ref pl), y, none] ∧ Ex H H') (fun H3 e3 => ⟨none, rfl, e1.trans e3⟩) (fun i σ' H' _ ⟨_, _, e⟩ => ex_l e hL) ?_ ?_
    · rintro i x σ' H' hx ⟨y, rfl, e⟩
      obtain ⟨l, hn, rfl⟩ := vsl_at hx
      have hf1 := hf.mono e
      have hl1 := hl.mono e
      refine' a_when1 (K := K) (b := !decide ((((F.map S).count (S l) : Nat) : Int) = (((L.map S).count (S l) : Nat) : Int))) ?g4 ?g5 ?g6
      case g4 => exact et1 (er_op (er_bm (K := K) (d0 := .l (vsl F)) (ds := [.s (S l)]) (er_var rfl hf1) (era_cons (er_v rfl) era_nil) rm_count) (er_bm (K := K) (d0 := .l (vsl L)) (ds := [.s (S l)]) (er_var rfl hl1) (era_cons (er_v rfl) era_nil) rm_count) ro_neI)
      case g5 =>
        intro hb
        rw [cnt] at hb
        simp at hb
      case g6 =>
        intro _ H3 e3
        exact ⟨_, rfl, e.trans e3⟩
    · rintro σ' H' ⟨y, rfl, e⟩
      have hf1 := hf.mono e
      refine b_forR1 (K := K) (n := F.length - 1) ?_ (by omega) (fun i σ' H' => ∃ y z, σ' = [some (.ref pf), some (.ref pl), y, z] ∧ Ex H H') (fun H5 e5 => ⟨y, none, rfl, e.trans e5⟩) ?_ ?_
      · refine era_cons (Er.to (er_op (er_cb (era_cons (er_var rfl hf1) era_nil) rc_lenLL) er_c ro_I0) ?_) era_nil
        show Dd.i _ = Dd.i _
        congr 2
        omega
      · rintro i σ' H' hi ⟨y, z, rfl, e⟩
        have hf2 := hf.mono e
        have i1 : i < F.length := by omega
        have i2 : i + 1 < F.length := by omega
        have g1 := good _ (getD_memL (z := []) i1)
        have g2 := good _ (getD_memL (z := []) i2)
        have le : F.getD i [] ≤ F.getD (i + 1) [] := by
          have h := List.pairwise_iff_getElem.mp hp.ord i (i + 1) i1 i2 (by omega)
          rw [List.getD_eq_getElem?_getD, List.getD_eq_getElem?_getD, List.getElem?_eq_getElem i1, List.getElem?_eq_getElem i2]
          exact h
        refine' a_when1 (K := K) (b := !true) ?g7 ?g8 ?g9
        case g7 =>
          refine et_nt (et2 (er_call (K := K) (F.getD i [], F.getD (i + 1) []) (ds := [.s (S (F.getD i [])), .s (S (F.getD (i + 1) []))]) (era_cons ?_ (era_cons ?_ era_nil)) rfl ⟨?_, ?_, le, g1.2, g2.2⟩))
          · refine Er.to (er_op (d2 := .i (i : Int)) (er_var rfl hf2) (er_v rfl) (ro_ixSS (by omega) (by omega))) ?_
            rw [Int.toNat_natCast]
          · refine Er.to (er_op (d2 := .i ((i + 1 : Nat) : Int)) (er_var rfl hf2) (er_op (er_v rfl) er_c ro_I0) (ro_ixSS (by omega) (by omega))) ?_
            rw [Int.toNat_natCast]
          · show (F.getD i []).length = (F.getD (i + 1) []).length
            rw [g1.1, g2.1]
          · show (F.getD i []).length ≤ 1000
            rw [g1.1]
            omega
        case g8 =>
          intro hb
          cases hb
        case g9 =>
          intro _ H3 e3
          exact ⟨_, _, rfl, e.trans e3⟩
      · rintro σ' H' ⟨y, z, rfl, e⟩
        exact a_rete (K := K) er_c rfl e hk
end
end Mi

set_option maxHeartbeats 4000000
namespace Mi
open PySem PySem.Spec PyProof.Rows L2 Evl
local macro_rules | `(tactic| walk_at "side") => `(tactic| (first | assumption | omega | exact rfl | decide | (simp only [List.length_cons, List.length_nil, List.length_map, List.length_append, List.length_replicate] <;> omega)))
local macro_rules | `(tactic| walk_at "ro") => `(tactic| (first
  | with_reducible exact ro_I0
  | with_reducible exact ro_1018
  | with_reducible exact ro_neC
  | with_reducible exact ro_eqC
  | with_reducible exact ro_neI
  | with_reducible exact ro_eqI
  | with_reducible exact ro_neB
  | with_reducible exact ro_eqB
  | ((with_reducible apply ro_mod); (walk_at "side"))
  | ((with_reducible apply ro_div) <;> (walk_at "side"))
  | ((with_reducible apply ro_mulL) <;> (walk_at "side"))
  | ((with_reducible apply ro_mulR) <;> (walk_at "side"))
  | ((with_reducible apply ro_addC); (walk_at "side"))
  | ((with_reducible apply ro_ixC) <;> (walk_at "side"))
  | ((with_reducible apply ro_ixI) <;> (walk_at "side"))
  | ((with_reducible apply ro_ixIN) <;> (walk_at "side"))
  | ((with_reducible apply ro_ixT2) <;> (walk_at "side"))
  | ((with_reducible apply ro_ixG) <;> (walk_at "side"))
  | ((with_reducible apply ro_eq); exact rfl)
  | ((with_reducible apply ro_ne); exact rfl)
  | with_reducible exact ro_isN
  | with_reducible exact ro_notN
  | with_reducible exact ro_eqL
  | with_reducible exact ro_neL
  | with_reducible exact ro_eqU
  | ((with_reducible apply ro_cat); (walk_at "side"))
  | with_reducible exact ro_inLi
  | with_reducible exact ro_inNi
  | with_reducible exact ro_inUi
  | ((with_reducible apply ro_inL) <;> (walk_at "side"))
  | ((with_reducible apply ro_inN) <;> (walk_at "side"))
  | ((with_reducible apply ro_inU) <;> (walk_at "side"))))
local macro_rules | `(tactic| walk_at "rc") => `(tactic| (first
  | with_reducible exact rc_int
  | with_reducible exact rc_intB
  | with_reducible exact rc_max2
  | ((with_reducible apply rc_lenC); (walk_at "side"))
  | with_reducible exact rc_lenI
  | with_reducible exact rc_lenT
  | with_reducible exact rc_lenIN
  | with_reducible exact rc_lenTN
  | with_reducible exact rc_lenL
  | with_reducible exact rc_lenN
  | with_reducible exact rc_lenU
  | with_reducible exact rc_listL
  | with_reducible exact rc_listU
  | with_reducible exact rc_tupL
  | with_reducible exact rc_tupN
  | ((with_reducible apply rc_isi_int); decide +kernel)
  | ((with_reducible apply rc_isi_str); decide +kernel)
  | ((with_reducible apply rc_isi_bl); decide +kernel)
  | ((with_reducible apply rc_isi_non); decide +kernel)
  | ((with_reducible apply rc_isi_u); decide +kernel)
  | ((with_reducible apply rc_isi_l); decide +kernel)))
local macro_rules | `(tactic| walk_at "er") => `(tactic| (first
  | ((with_reducible apply er_var); (exact rfl); assumption)
  | ((with_reducible apply er_v); exact rfl)
  | with_reducible exact er_c
  | ((with_reducible apply er_pick); (walk_at "er"); (walk_at "er"); (walk_at "er"))
  | ((with_reducible apply er_op); (walk_at "er"); (walk_at "er"); (walk_at "ro"))
  | ((with_reducible apply er_cb); (walk_at "era"); (walk_at "rc"))
  | ((with_reducible apply er_lst'); (walk_at "era"); (exact rfl); (walk_at "side"))
  | ((with_reducible apply er_tup'); (walk_at "era"); (exact rfl); (walk_at "side"))
  | ((with_reducible apply er_notV); (walk_at "er"))
  | ((with_reducible apply er_andV); (walk_at "er"); (intro _; (walk_at "er")))
  | ((with_reducible apply er_orV); (walk_at "er"); (intro _; (walk_at "er")))
  | ((with_reducible apply er_ite); (walk_at "et"); (intro _; (walk_at "er")); (intro _; (walk_at "er")))))
local macro_rules | `(tactic| walk_at "era") => `(tactic| (first
  | with_reducible exact era_nil
  | ((with_reducible apply era_cons); (walk_at "er"); (walk_at "era"))))
local macro_rules | `(tactic| walk_at "et") => `(tactic| (first
  | ((with_reducible apply et_an); (walk_at "et"); (intro _; (walk_at "et")))
  | ((with_reducible apply et_orr); (walk_at "et"); (intro _; (walk_at "et")))
  | ((with_reducible apply et_nt); (walk_at "et"))
  | ((with_reducible apply et1); (walk_at "er"))
  | ((with_reducible apply et2); (walk_at "er"))))

section
variable {P : Program} {w : World} {K : PySem.W.Frag} {mg : Str → Option Value} {base : Heap} {tD tO : Tok}

abbrev s__law_sorted_right : Stmt := topS 35
theorem sc__law_sorted_right : FnScope ["layers", "found", "grown", "text", "k"] ["layers"] (defScope s__law_sorted_right) := ⟨rfl, rfl, rfl, by decide +kernel, rfl, by decide +kernel, by decide +kernel⟩

theorem ordd_perm (b : Bool) (L : List (List Nat)) : (ordd b L).Perm L := List.mergeSort_perm _ _
theorem ordd_le (b : Bool) (L : List (List Nat)) : (ordd b L).Pairwise fun x y => (if b = true then fun x y => decide (y ≤ x) else fun x y => decide (x ≤ y) : List Nat → List Nat → Bool) x y = true := by
  unfold ordd
  rw [← dataLe_S]
  exact PySem.W.sort_pairwise (PySem.W.sortLe_total _ _ _) L
theorem ordd_up (L : List (List Nat)) : (ordd false L).Pairwise (· ≤ ·) := (ordd_le false L).imp fun h => of_decide_eq_true h
theorem ordd_dn (L : List (List Nat)) : (ordd true L).Pairwise fun x y => y ≤ x := (ordd_le true L).imp fun h => of_decide_eq_true h
def growM (L : List (List Nat)) : List (List Nat) := L.foldl (fun acc t => ordd false (acc ++ [t])) []
theorem growM_next {L : List (List Nat)} {i : Nat} {t : List Nat} (h : L[i]? = some t) : growM (L.take (i + 1)) = ordd false (growM (L.take i) ++ [t]) := by
  unfold growM
  rw [List.take_add_one, h, List.foldl_append]
  rfl
theorem growM_perm (L : List (List Nat)) : (growM L).Perm L := by
  unfold growM
  suffices h : ∀ (L acc A : List (List Nat)), acc.Perm A → (L.foldl (fun acc t => ordd false (acc ++ [t])) acc).Perm (A ++ L) by
    have := h L [] [] (List.Perm.refl _)
    simpa using this
  intro L
  induction L with
  | nil => intro acc A h; simpa using h
  | cons t r ih =>
    intro acc A h
    have e : A ++ t :: r = (A ++ [t]) ++ r := by simp
    rw [e]
    exact ih _ _ ((ordd_perm false _).trans (h.append_right [t]))
theorem growM_up (L : List (List Nat)) : (growM L).Pairwise (· ≤ ·) := by
  cases e : L.reverse with
  | nil =>
    have : L = [] := by simpa using e
    subst this
    exact .nil
  | cons t r =>
    have e2 : L = r.reverse ++ [t] := by rw [← List.reverse_reverse L, e, List.reverse_cons]
    rw [e2]
    unfold growM
    rw [List.foldl_append]
    exact ordd_up _
theorem rev_range (F : List (List Nat)) : (List.range F.length).map (fun k => F.getD (F.length - 1 - k) []) = F.reverse := by
  refine List.ext_getElem (by simp) fun i h1 h2 => ?_
  simp at h1 h2 ⊢
  rw [List.getElem?_eq_getElem (by omega)]
  rfl
structure Lay (wide : Nat) (L : List (List Nat)) : Prop where
  one : 1 ≤ L.length
  few : L.length ≤ 100
  good : ∀ l ∈ L, Good wide l
  wd : wide ≤ 30
theorem Lay.ordd {wide : Nat} {F L : List (List Nat)} (h : Lay wide L) (p : F.Perm L) (o : F.Pairwise (· ≤ ·)) : Ordd wide F L := ⟨p, h.one, h.few, o, h.good, h.wd⟩
abbrev sp__law_sorted_right (K : PySem.W.Frag) : Sp := spR K (fun a : List (List Nat) × Nat => Lay a.2 a.1) (fun a => [.l (vsl a.1)]) fun _ => .b true
theorem has__law_sorted_right (T : Txt K mg tD tO) (h : At K mg "_law_sorted_right" s__law_sorted_right ["layers"]) (C_layer_order : Has P w K mg base 1 "layer_order" ["one"] (sp_order K)) (C__law_key : Has P w K mg base 2 "_law_key" ["text"] (spId K)) (C__law_ordered : Has P w K mg base 2 "_law_ordered" ["found", "layers"] (sp__law_ordered K)) : Has P w K mg base 5 "_law_sorted_right" ["layers"] (sp__law_sorted_right K) := by
  refine h.hasR sc__law_sorted_right (fun _ => rfl) fun f cdv A outer s H a vs Q E hr hp hv hk => ?_
  obtain ⟨L, wide⟩ := a
  replace hp : Lay wide L := hp
  rcases hv with _ | ⟨⟨pl, rfl, hL⟩, _ | _⟩
  have hl : Is K H (.l (vsl L)) (.ref pl) := ⟨pl, rfl, hL⟩
  have sc := sc__law_sorted_right
  refine ⟨_, (pss_cons (ps_if (pt_not (pt_val (pe_callH C__law_ordered (hr.mono (by decide)) (pa_cons (pe_sortD C_layer_order (hr.mono (by decide)) (by rfl) T.b_sorted (by rfl) (pa_cons (pv 0) pa_nil)) (pa_cons (pv 0) pa_nil))))) (pss_one (ps_ret pe_bl)) pss_nil)
    (pss_cons (ps_set (i := 1) sc.nd rfl (Or.inr rfl) (pe_sortDR C_layer_order (hr.mono (by decide)) (by rfl) T.b_sorted (by rfl) (pa_cons (pv 0) pa_nil)))
    (pss_cons (ps_if (pt_not (pt_val (pe_callH C__law_ordered (hr.mono (by decide)) (pa_cons (pe_lc (own := [("k", 4)]) (g := gName 4) (by rfl) sc.nd (pi_range1 (by rfl) T.b_range (pa_cons (pe_callB (cr_len_k (K := K)) (by rfl) T.b_len (by decide +kernel) (pa_cons (pv 1) pa_nil)) pa_nil)) (blkOk_by (N := ["layers", "found", "grown", "text", "k"]) (sc := defScope s__law_sorted_right) (own := [("k", 4)]) (by decide +kernel)) (fun _ _ _ _ _ => (pg_name (i := 4) sc.nd rfl (Or.inl rfl))) (fun _ _ _ _ _ => pts_nil) (fun _ _ _ _ _ => (pe_ix (ix_list_k (K := K)) (pv 1) (pe_op op_sub (pe_op op_sub (pe_callB (cr_len_k (K := K)) (by rfl) T.b_len (by decide +kernel) (pa_cons (pv 1) pa_nil)) pe_int) (pv 4)) (fun _ _ => rfl)))) (pa_cons (pv 0) pa_nil))))) (pss_one (ps_ret pe_bl)) pss_nil)
    (pss_cons (ps_set (i := 2) sc.nd rfl (Or.inl rfl) (pe_lst pa_nil))
    (pss_cons (ps_for PassesOwn.never rfl (pi_list_k (K := K) (pv 0)) (pg_name (i := 3) sc.nd rfl (Or.inl rfl)) (pss_one (ps_set (i := 2) sc.nd rfl (Or.inl rfl) (pe_sortD C_layer_order (hr.mono (by decide)) (by rfl) T.b_sorted (by rfl) (pa_cons (pe_op op_cat (pv 2) (pe_lst (pa_cons (pv 3) pa_nil))) pa_nil)))))
    (pss_one (ps_ret (pe_and (pe_callH C__law_ordered (hr.mono (by decide)) (pa_cons (pv 2) (pa_cons (pv 0) pa_nil))) (pe_one (pe_callH C__law_ordered (hr.mono (by decide)) (pa_cons (pe_sortD C__law_key (hr.mono (by decide)) (by rfl) T.b_sorted (by rfl) (pa_cons (pv 0) pa_nil)) (pa_cons (pv 0) pa_nil)))))))))))), ?_⟩
  refine' a_when (K := K) (b := !true) ?g1 ?g2 ?g3
  case g1 => exact et_nt (et2 (er_call (K := K) (ordd false L, L, wide) (era_cons (Er.n2l (er_sortD (er_var rfl hl))) (era_cons (er_var rfl hl) era_nil)) rfl (hp.ordd (ordd_perm _ _) (ordd_up L))))
  case g2 =>
    intro hb
    cases hb
  case g3 =>
    intro _ H1 e1
    have hl1 := hl.mono e1
    refine' a_asg (K := K) (er_sortD (b := true) (ys := L) (er_var rfl hl1)) ?g4
    intro v H2 e2 hv2
    obtain ⟨pf, rfl, hpf⟩ := hv2
    have lF : (ordd true L).length = L.length := (ordd_perm true L).length_eq
    have hf2 : Is K H2 (.n (vsl (ordd true L))) (.ref pf) := ⟨pf, rfl, hpf⟩
    have hl2 := hl1.mono e2
    refine' a_when (K := K) (b := !true) ?g5 ?g6 ?g7
    case g5 =>
      refine et_nt (et2 (er_call (K := K) ((ordd true L).reverse, L, wide) (ds := [.l (vsl (ordd true L).reverse), .l (vsl L)]) (era_cons (Er.n2l ?g8) (era_cons (er_var rfl hl2) era_nil)) rfl (hp.ordd ((List.reverse_perm _).trans (ordd_perm _ _)) (List.pairwise_reverse.mpr (ordd_dn L)))))
      refine Er.to (er_lcR' (K := K) (n := (ordd true L).length) (vs := [4]) (fun k => V.str (S ((ordd true L).getD ((ordd true L).length - 1 - k) []))) (era_cons (er_cb (era_cons (er_var rfl hf2) era_nil) rc_lenLN) era_nil) (by have := hp.few; omega) (fun _ => rfl) ?g9) ?g10
      case g9 =>
        intro i H3 e3 hi
        have hf3 := hf2.mono e3
        have ei : (((ordd true L).length - 1 - i : Nat) : Int) = ((ordd true L).length : Int) - 1 - (i : Int) := by omega
        refine Er.to (er_op (d2 := .i (((ordd true L).length - 1 - i : Nat) : Int)) (er_var rfl hf3) (Er.to (er_op (er_op (er_cb (era_cons (er_var rfl hf3) era_nil) rc_lenLN) er_c ro_I0) (er_v rfl) ro_I0) (congrArg Dd.i ei.symm)) (ro_ixSN (by omega) (by omega))) ?g11
        rw [Int.toNat_natCast]
      case g10 =>
        show Dd.n _ = Dd.n (vsl (ordd true L).reverse)
        rw [← rev_range (ordd true L), vsl, vss, List.map_map, List.map_map]
        rfl
    case g6 =>
      intro hb
      cases hb
    case g7 =>
      intro _ H3 e3
      refine a_new fun g H4 hg e4 q4 => ?_
      have E4 : Ex H H4 := ((e1.trans e2).trans e3).trans e4
      refine b_forA (K := K) (a := pl) (xs := vsl L) (er_v rfl) (ex_l E4 hL) (fun i σ' H' => ∃ g y, σ' = [some (.ref pl), some (.ref pf), some (.ref g), y, none] ∧ Ex H H' ∧ H' g = some (.lst (vsl (growM (L.take i))))) (fun H5 e5 => ⟨g, none, rfl, E4.trans e5, e5 g _ q4⟩) (fun i σ' H' _ ⟨_, _, _, e, _⟩ => ex_l e hL) ?_ ?_
      · rintro i x σ' H' hx ⟨g, y, rfl, e, hg⟩
        obtain ⟨l, hn, rfl⟩ := vsl_at hx
        have hgi : Is K H' (.n (vsl (growM (L.take i)))) (.ref g) := ⟨g, rfl, hg⟩
        have lg : (growM (L.take i)).length ≤ 100 := by
          have h1 := (growM_perm (L.take i)).length_eq
          rw [List.length_take] at h1
          have := hp.few
          omega
        refine' a_asg1 (K := K) (er_sortD (b := false) (ys := growM (L.take i) ++ [l]) (Er.n2l (Er.to (er_op (er_var rfl hgi) (er_lst (vs := [.str (S l)]) (era_cons (er_v rfl) era_nil) (by simp)) (ro_cat ?g12)) ?g13))) ?g14
        case g12 =>
          rw [vsl_len]
          simp
          omega
        case g13 => exact congrArg Dd.n (vsl_app _ _).symm
        intro v H5 e5 hv5
        obtain ⟨g', rfl, hg'⟩ := hv5
        refine ⟨g', _, rfl, e.trans e5, ?_⟩
        rw [hg', growM_next hn]
      · rintro σ' H' ⟨g, y, rfl, e, hg⟩
        rw [vsl_len, List.take_length] at hg
        have hgi : Is K H' (.n (vsl (growM L))) (.ref g) := ⟨g, rfl, hg⟩
        have hli := hl.mono e
        refine a_rete (K := K) (er_andV (er_call (K := K) (growM L, L, wide) (era_cons (Er.n2l (er_var rfl hgi)) (era_cons (er_var rfl hli) era_nil)) rfl (hp.ordd (growM_perm L) (growM_up L))) fun _ => er_call (K := K) (ordd false L, L, wide) (era_cons (Er.n2l (er_sortD (er_var rfl hli))) (era_cons (er_var rfl hli) era_nil)) rfl (hp.ordd (ordd_perm _ _) (ordd_up L))) rfl e hk
end
end Mi

set_option maxHeartbeats 4000000
namespace Mi
open PySem PySem.Spec PyProof.Rows L2 Evl
local macro_rules | `(tactic| walk_at "side") => `(tactic| (first | assumption | omega | exact rfl | decide | (simp only [List.length_cons, List.length_nil, List.length_map, List.length_append, List.length_replicate] <;> omega)))
local macro_rules | `(tactic| walk_at "ro") => `(tactic| (first
  | with_reducible exact ro_I0
  | with_reducible exact ro_1018
  | with_reducible exact ro_neC
  | with_reducible exact ro_eqC
  | with_reducible exact ro_neI
  | with_reducible exact ro_eqI
  | with_reducible exact ro_neB
  | with_reducible exact ro_eqB
  | ((with_reducible apply ro_mod); (walk_at "side"))
  | ((with_reducible apply ro_div) <;> (walk_at "side"))
  | ((with_reducible apply ro_mulL) <;> (walk_at "side"))
  | ((with_reducible apply ro_mulR) <;> (walk_at "side"))
  | ((with_reducible apply ro_addC); (walk_at "side"))
  | ((with_reducible apply ro_ixC) <;> (walk_at "side"))
  | ((with_reducible apply ro_ixI) <;> (walk_at "side"))
  | ((with_reducible apply ro_ixIN) <;> (walk_at "side"))
  | ((with_reducible apply ro_ixT2) <;> (walk_at "side"))
  | ((with_reducible apply ro_ixG) <;> (walk_at "side"))
  | ((with_reducible apply ro_eq); exact rfl)
  | ((with_reducible apply ro_ne); exact rfl)
  | with_reducible exact ro_isN
  | with_reducible exact ro_notN
  | with_reducible exact ro_eqL
  | with_reducible exact ro_neL
  | with_reducible exact ro_eqU
  | ((with_reducible apply ro_cat); (walk_at "side"))
  | with_reducible exact ro_inLi
  | with_reducible exact ro_inNi
  | with_reducible exact ro_inUi
  | ((with_reducible apply ro_inL) <;> (walk_at "side"))
  | ((with_reducible apply ro_inN) <;> (walk_at "side"))
  | ((with_reducible apply ro_inU) <;> (walk_at "side"))))
local macro_rules | `(tactic| walk_at "rc") => `(tactic| (first
  | with_reducible exact rc_int
  | with_reducible exact rc_intB
  | with_reducible exact rc_max2
  | ((with_reducible apply rc_lenC); (walk_at "side"))
  | with_reducible exact rc_lenI
  | with_reducible exact rc_lenT
  | with_reducible exact rc_lenIN
  | with_reducible exact rc_lenTN
  | with_reducible exact rc_lenL
  | with_reducible exact rc_lenN
  | with_reducible exact rc_lenU
  | with_reducible exact rc_listL
  | with_reducible exact rc_listU
  | with_reducible exact rc_tupL
  | with_reducible exact rc_tupN
  | ((with_reducible apply rc_isi_int); decide +kernel)
  | ((with_reducible apply rc_isi_str); decide +kernel)
  | ((with_reducible apply rc_isi_bl); decide +kernel)
  | ((with_reducible apply rc_isi_non); decide +kernel)
  | ((with_reducible apply rc_isi_u); decide +kernel)
  | ((with_reducible apply rc_isi_l); decide +kernel)))
local macro_rules | `(tactic| walk_at "er") => `(tactic| (first
  | ((with_reducible apply er_var); (exact rfl); assumption)
  | ((with_reducible apply er_v); exact rfl)
  | with_reducible exact er_c
  | ((with_reducible apply er_pick); (walk_at "er"); (walk_at "er"); (walk_at "er"))
  | ((with_reducible apply er_op); (walk_at "er"); (walk_at "er"); (walk_at "ro"))
  | ((with_reducible apply er_cb); (walk_at "era"); (walk_at "rc"))
  | ((with_reducible apply er_lst'); (walk_at "era"); (exact rfl); (walk_at "side"))
  | ((with_reducible apply er_tup'); (walk_at "era"); (exact rfl); (walk_at "side"))
  | ((with_reducible apply er_notV); (walk_at "er"))
  | ((with_reducible apply er_andV); (walk_at "er"); (intro _; (walk_at "er")))
  | ((with_reducible apply er_orV); (walk_at "er"); (intro _; (walk_at "er")))
  | ((with_reducible apply er_ite); (walk_at "et"); (intro _; (walk_at "er")); (intro _; (walk_at "er")))))
local macro_rules | `(tactic| walk_at "era") => `(tactic| (first
  | with_reducible exact era_nil
  | ((with_reducible apply era_cons); (walk_at "er"); (walk_at "era"))))
local macro_rules | `(tactic| walk_at "et") => `(tactic| (first
  | ((with_reducible apply et_an); (walk_at "et"); (intro _; (walk_at "et")))
  | ((with_reducible apply et_orr); (walk_at "et"); (intro _; (walk_at "et")))
  | ((with_reducible apply et_nt); (walk_at "et"))
  | ((with_reducible apply et1); (walk_at "er"))
  | ((with_reducible apply et2); (walk_at "er"))))

section
variable {P : Program} {w : World} {K : PySem.W.Frag} {mg : Str → Option Value} {base : Heap} {tD tO : Tok}

abbrev s__law_presses_right : Stmt := topS 31
theorem sc__law_presses_right : FnScope ["first", "layers", "wide", "now", "layer", "folded", "k", "told"] ["first", "layers"] (defScope s__law_presses_right) := ⟨rfl, rfl, rfl, by decide +kernel, rfl, by decide +kernel, by decide +kernel⟩

theorem press_at {a b : List Nat} {i : Nat} (h1 : i < a.length) (h2 : i < b.length) (h : i < (pressM a b).length) : (pressM a b)[i] = if b[i] = 45 then a[i] else b[i] := by
  simp [pressM]
theorem press_assoc {a b c : List Nat} (h1 : a.length = b.length) (h2 : b.length = c.length) : pressM a (pressM b c) = pressM (pressM a b) c := by
  have l1 := pressM_len h1
  have l2 := pressM_len h2
  have l3 : (pressM a (pressM b c)).length = a.length := pressM_len (by omega)
  have l4 : (pressM (pressM a b) c).length = (pressM a b).length := pressM_len (by omega)
  refine List.ext_getElem (by omega) fun i q1 q2 => ?_
  rw [press_at (by omega) (by omega), press_at (by omega) (by omega), press_at (by omega) (by omega), press_at (by omega) (by omega)]
  by_cases hc : c[i] = 45
  · simp only [hc, if_true]
  · simp only [hc, if_false]
theorem press_none {x : List Nat} {n : Nat} (h : x.length = n) : pressM x (List.replicate n 45) = x := by
  have l1 : (pressM x (List.replicate n 45)).length = x.length := pressM_len (by simp; omega)
  refine List.ext_getElem l1 fun i q1 q2 => ?_
  rw [press_at (by omega) (by simp; omega), List.getElem_replicate, if_pos rfl]
theorem press_onto {x : List Nat} {n : Nat} (h : x.length = n) : pressM (List.replicate n 45) x = x := by
  have l1 : (pressM (List.replicate n 45) x).length = (List.replicate n 45).length := pressM_len (by simp; omega)
  rw [List.length_replicate] at l1
  refine List.ext_getElem (by omega) fun i q1 q2 => ?_
  rw [press_at (by simp; omega) (by omega), List.getElem_replicate]
  split
  · next h => exact h.symm
  · rfl
theorem press_mem {a b : List Nat} (h : a.length = b.length) (hm : 45 ∈ pressM a b) : 45 ∈ a := by
  obtain ⟨i, hi, e⟩ := List.mem_iff_getElem.mp hm
  have l1 := pressM_len h
  rw [press_at (by omega) (by omega)] at e
  split at e
  · rw [← e]; exact List.getElem_mem _
  · next hn => exact absurd e hn
def allW (n : Nat) (L : List (List Nat)) : Prop := ∀ l ∈ L, l.length = n
theorem foldr_len {n : Nat} : ∀ {L : List (List Nat)}, allW n L → (L.foldr pressM (List.replicate n 45)).length = n
  | [], _ => by simp
  | l :: r, h => by
    have h1 := h l (.head _)
    have h2 := foldr_len (n := n) (L := r) fun x hx => h x (.tail _ hx)
    rw [List.foldr_cons, pressM_len (by omega), h1]
theorem foldl_len {n : Nat} : ∀ {L : List (List Nat)} {x : List Nat}, allW n L → x.length = n → (L.foldl pressM x).length = n
  | [], _, _, h => h
  | l :: r, x, h, hx => by
    have h1 := h l (.head _)
    exact foldl_len (L := r) (fun x hx => h x (.tail _ hx)) (by rw [pressM_len (by omega), hx])
theorem fold_eq {n : Nat} : ∀ {L : List (List Nat)} {x : List Nat}, allW n L → x.length = n → pressM x (L.foldr pressM (List.replicate n 45)) = L.foldl pressM x
  | [], x, _, h => press_none h
  | l :: r, x, h, hx => by
    have h1 := h l (.head _)
    have h2 : allW n r := fun x hx => h x (.tail _ hx)
    have h3 := foldr_len h2
    rw [List.foldr_cons, press_assoc (by omega) (by omega), List.foldl_cons]
    exact fold_eq h2 (by rw [pressM_len (by omega), hx])
theorem foldl_mem {n : Nat} : ∀ {L : List (List Nat)} {x : List Nat}, allW n L → x.length = n → 45 ∈ L.foldl pressM x → 45 ∈ x
  | [], _, _, _, h => h
  | l :: r, x, h, hx, hm => by
    have h1 := h l (.head _)
    exact press_mem (by omega) (foldl_mem (L := r) (fun x hx => h x (.tail _ hx)) (by rw [pressM_len (by omega), hx]) hm)
theorem foldl_next {L : List (List Nat)} {i : Nat} {l x : List Nat} (h : L[i]? = some l) : (L.take (i + 1)).foldl pressM x = pressM ((L.take i).foldl pressM x) l := by
  rw [List.take_add_one, h, List.foldl_append]
  rfl
theorem foldr_next {L : List (List Nat)} {i : Nat} {z : List Nat} (h : i < L.length) : (L.drop (L.length - (i + 1))).foldr pressM z = pressM (L.getD (L.length - 1 - i) []) ((L.drop (L.length - i)).foldr pressM z) := by
  have e1 : L.length - (i + 1) < L.length := by omega
  have e2 : L.length - (i + 1) + 1 = L.length - i := by omega
  have e3 : L.length - 1 - i = L.length - (i + 1) := by omega
  rw [List.drop_eq_getElem_cons e1, e2, e3, List.getD_eq_getElem?_getD, List.getElem?_eq_getElem e1]
  rfl
theorem allW_take {n i : Nat} {L : List (List Nat)} (h : allW n L) : allW n (L.take i) := fun l hl => h l (List.mem_of_mem_take hl)
theorem allW_drop {n i : Nat} {L : List (List Nat)} (h : allW n L) : allW n (L.drop i) := fun l hl => h l (List.mem_of_mem_drop hl)
abbrev sp__law_presses_right (K : PySem.W.Frag) : Sp := spR K (fun a : List Nat × List (List Nat) => Lay a.1.length a.2) (fun a => [.s (S a.1), .l (vsl a.2)]) fun _ => .b true
theorem has__law_presses_right (T : Txt K mg tD tO) (h : At K mg "_law_presses_right" s__law_presses_right ["first", "layers"]) (C_press : Has P w K mg base 1 "press" ["one", "two"] (sp_press K)) (C__law_press : Has P w K mg base 1 "_law_press" ["low", "high"] (sp__law_press K)) (C__law_told : Has P w K mg base 2 "_law_told" ["low", "high"] (sp__law_told K)) : Has P w K mg base 3 "_law_presses_right" ["first", "layers"] (sp__law_presses_right K) := by
  refine h.hasR sc__law_presses_right (fun _ => rfl) fun f cdv A outer s H a vs Q E hr hp hv hk => ?_
  obtain ⟨x, L⟩ := a
  replace hp : Lay x.length L := hp
  rcases hv with _ | ⟨rfl, _ | ⟨⟨pl, rfl, hL⟩, _ | _⟩⟩
  have hl : Is K H (.l (vsl L)) (.ref pl) := ⟨pl, rfl, hL⟩
  have aw : allW x.length L := fun l h => (hp.good l h).1
  have wd := hp.wd
  have few := hp.few
  have one := hp.one
  have sc := sc__law_presses_right
  refine ⟨_, (pss_cons (ps_set (i := 2) sc.nd rfl (Or.inl rfl) (pe_callB cr_lenStr (by rfl) T.b_len (by decide +kernel) (pa_cons (pv 0) pa_nil)))
    (pss_cons (ps_set (i := 3) sc.nd rfl (Or.inl rfl) (pv 0))
    (pss_cons (ps_for PassesOwn.never rfl (pi_list_k (K := K) (pv 1)) (pg_name (i := 4) sc.nd rfl (Or.inl rfl)) (pss_cons (ps_set (i := 3) sc.nd rfl (Or.inl rfl) (pe_callH C__law_told (hr.mono (by decide)) (pa_cons (pv 3) (pa_cons (pv 4) pa_nil))))
    (pss_one (ps_if (PW.pt (pw_or (pt_cmpR op_isN1 (pv 3) pe_non (nomark _)) (pw_or1 (PW.pt (pw_and (pt_cmpR op_inS (pe_strS [45] (by rfl)) (pv 3) rfl) (pw_and1 (pt_cmpR op_notInS (pe_strS [45] (by rfl)) (pv 0) rfl))))))) (pss_one (ps_ret pe_bl)) pss_nil))))
    (pss_cons (ps_set (i := 5) sc.nd rfl (Or.inl rfl) (pe_op op_mulS (pe_strS [45] (by rfl)) (pv 2)))
    (pss_cons (ps_for PassesOwn.never rfl (pi_range1 (by rfl) T.b_range (pa_cons (pe_callB (cr_len_k (K := K)) (by rfl) T.b_len (by decide +kernel) (pa_cons (pv 1) pa_nil)) pa_nil)) (pg_name (i := 6) sc.nd rfl (Or.inl rfl)) (pss_cons (ps_set (i := 5) sc.nd rfl (Or.inl rfl) (pe_callH C__law_told (hr.mono (by decide)) (pa_cons (pe_ix (ix_list_k (K := K)) (pv 1) (pe_op op_sub (pe_op op_sub (pe_callB (cr_len_k (K := K)) (by rfl) T.b_len (by decide +kernel) (pa_cons (pv 1) pa_nil)) pe_int) (pv 6)) (fun _ _ => rfl)) (pa_cons (pv 5) pa_nil))))
    (pss_one (ps_if (pt_cmpR op_isN1 (pv 5) pe_non (nomark _)) (pss_one (ps_ret pe_bl)) pss_nil))))
    (pss_cons (ps_if (pt_cmpR op_ne (pe_callH C__law_told (hr.mono (by decide)) (pa_cons (pv 0) (pa_cons (pv 5) pa_nil))) (pv 3) (nomark _)) (pss_one (ps_ret pe_bl)) pss_nil)
    (pss_cons (ps_if (PW.pt (pw_or (pt_cmpR op_ne (pe_callH C__law_told (hr.mono (by decide)) (pa_cons (pv 0) (pa_cons (pe_op op_mulS (pe_strS [45] (by rfl)) (pv 2)) pa_nil))) (pv 0) (nomark _)) (pw_or1 (pt_cmpR op_ne (pe_callH C__law_told (hr.mono (by decide)) (pa_cons (pe_op op_mulS (pe_strS [45] (by rfl)) (pv 2)) (pa_cons (pv 0) pa_nil))) (pv 0) (nomark _))))) (pss_one (ps_ret pe_bl)) pss_nil)
    (pss_cons (ps_set (i := 7) sc.nd rfl (Or.inl rfl) (pe_callH2 C_press (hr.mono (by decide)) (pe_ix (ix_list_k (K := K)) (pv 1) pe_int (fun _ _ => rfl)) (pv 0)))
    (pss_one (ps_ret (pe_and (pe_callB (cr_isi_k (K := K)) (by rfl) T.b_isinstance (by decide +kernel) (pa_cons (pv 7) (pa_cons (pe_bltn (v := .ty "str") (by rfl) T.b_str (by decide +kernel) rfl) pa_nil))) (pe_one (pe_cmpR op_eq (pv 7) (pe_callH C__law_press (hr.mono (by decide)) (pa_cons (pv 0) (pa_cons (pe_ix (ix_list_k (K := K)) (pv 1) pe_int (fun _ _ => rfl)) pa_nil))) (nomark _)))))))))))))), ?_⟩
  refine' a_setv (K := K) (x := .int (x.length : Int)) (er_cb (era_cons (er_v rfl) era_nil) (rc_lenC (z := x) (by omega))) ?g1
  intro H1 e1
  refine' a_setv (K := K) (x := .str (S x)) (er_v rfl) ?g2
  intro H2 e2
  refine b_forA (K := K) (a := pl) (xs := vsl L) (er_v rfl) (ex_l (e1.trans e2) hL) (fun i σ' H' => ∃ y, σ' = [some (.str (S x)), some (.ref pl), some (.int (x.length : Int)), some (.str (S ((L.take i).foldl pressM x))), y, none, none, none] ∧ Ex H H') (fun H3 e3 => ⟨none, rfl, (e1.trans e2).trans e3⟩) (fun i σ' H' _ ⟨_, _, e⟩ => ex_l e hL) ?_ ?_
  · rintro i v σ' H' hx ⟨y, rfl, e⟩
    obtain ⟨l, hn, rfl⟩ := vsl_at hx
    have ll := aw l (List.mem_of_getElem? hn)
    have fl := foldl_len (x := x) (allW_take (i := i) aw) rfl
    have q1 : ((L.take i).foldl pressM x).length = l.length := by omega
    have q2 : ((L.take i).foldl pressM x).length ≤ 1000 := by omega
    refine' a_setv (K := K) (x := .str (S ((L.take (i + 1)).foldl pressM x))) (Er.to (er_call (K := K) ((L.take i).foldl pressM x, l) (ds := [.s (S ((L.take i).foldl pressM x)), .s (S l)]) (era_cons (er_v rfl) (era_cons (er_v rfl) era_nil)) rfl ⟨q1, q2⟩) ?g3) ?g4
    case g3 => rw [foldl_next hn]
    intro H4 e4
    refine' a_when1 (K := K) (b := (decide (V.str (S ((L.take (i + 1)).foldl pressM x)) = .non) || (decide (45 ∈ (L.take (i + 1)).foldl pressM x) && !decide (45 ∈ x)))) ?g5 ?g6 ?g7
    case g5 => exact et_orr (et1 (er_op (er_v rfl) er_c ro_isN)) fun _ => et_an (et1 (er_op (d1 := .s (S [45])) (er_c) (er_v rfl) (ro_inS (c := 45)))) fun _ => et1 (er_op (d1 := .s (S [45])) (er_c) (er_v rfl) (ro_niS (c := 45)))
    case g6 =>
      intro hb
      exfalso
      rw [Bool.or_eq_true, Bool.and_eq_true] at hb
      rcases hb with hb | ⟨hb, hb2⟩
      · have := of_decide_eq_true hb
        cases this
      · have := foldl_mem (allW_take (i := i + 1) aw) rfl (of_decide_eq_true hb)
        rw [decide_eq_true this] at hb2
        cases hb2
    case g7 =>
      intro _ H5 e5
      exact ⟨_, rfl, (e.trans e4).trans e5⟩
  · rintro σ' H' ⟨y, rfl, e⟩
    rw [vsl_len, List.take_length]
    have fll := foldl_len (x := x) aw rfl
    generalize hFL : L.foldl pressM x = FL at fll
    refine' a_setv (K := K) (x := .str (S (List.replicate x.length 45))) (Er.to (er_op (d1 := .s (S [45])) (d2 := .i (x.length : Int)) er_c (er_v rfl) (ro_mulC (by omega) (by decide))) ?g8) ?g9
    case g8 => rw [List.flatten_replicate_singleton]
    intro H6 e6
    refine b_forR1 (K := K) (n := L.length) ?_ (by omega) (fun i σ' H' => ∃ z, σ' = [some (.str (S x)), some (.ref pl), some (.int (x.length : Int)), some (.str (S FL)), y, some (.str (S ((L.drop (L.length - i)).foldr pressM (List.replicate x.length 45)))), z, none] ∧ Ex H H') (fun H5 e5 => ⟨none, by rw [Nat.sub_zero, List.drop_length]; rfl, (e.trans e6).trans e5⟩) ?_ ?_
    · exact era_cons (er_cb (era_cons (er_var rfl (hl.mono (e.trans e6))) era_nil) rc_lenLL) era_nil
    · rintro i σ' H' hi ⟨z, rfl, e⟩
      have hl2 := hl.mono e
      have fr := foldr_len (allW_drop (i := L.length - i) aw)
      have gl : (L.getD (L.length - 1 - i) []).length = x.length := aw _ (getD_memL (by omega))
      have ei : ((L.length - 1 - i : Nat) : Int) = (L.length : Int) - 1 - (i : Int) := by omega
      have q1 : (L.getD (L.length - 1 - i) []).length = ((L.drop (L.length - i)).foldr pressM (List.replicate x.length 45)).length := by omega
      have q2 : (L.getD (L.length - 1 - i) []).length ≤ 1000 := by omega
      refine' a_setv (K := K) (x := .str (S ((L.drop (L.length - (i + 1))).foldr pressM (List.replicate x.length 45)))) (Er.to (er_call (K := K) (L.getD (L.length - 1 - i) [], (L.drop (L.length - i)).foldr pressM (List.replicate x.length 45)) (ds := [.s (S (L.getD (L.length - 1 - i) [])), .s (S ((L.drop (L.length - i)).foldr pressM (List.replicate x.length 45)))]) (era_cons ?g10 (era_cons (er_v rfl) era_nil)) rfl ⟨q1, q2⟩) ?g11) ?g12
      case g10 =>
        refine Er.to (er_op (d2 := .i ((L.length - 1 - i : Nat) : Int)) (er_var rfl hl2) (Er.to (er_op (er_op (er_cb (era_cons (er_var rfl hl2) era_nil) rc_lenLL) er_c ro_I0) (er_v rfl) ro_I0) (congrArg Dd.i ei.symm)) (ro_ixSS (by omega) (by omega))) ?g13
        rw [Int.toNat_natCast]
      case g11 => rw [foldr_next hi]
      intro H7 e7
      refine' a_when1 (K := K) (b := decide (V.str (S ((L.drop (L.length - (i + 1))).foldr pressM (List.replicate x.length 45))) = .non)) ?g14 ?g15 ?g16
      case g14 => exact et1 (er_op (er_v rfl) er_c ro_isN)
      case g15 =>
        intro hb
        have := of_decide_eq_true hb
        cases this
      case g16 =>
        intro _ H8 e8
        exact ⟨_, rfl, (e.trans e7).trans e8⟩
    · rintro σ' H' ⟨z, rfl, e⟩
      rw [Nat.sub_self, List.drop_zero]
      have fr := foldr_len aw
      have fe := fold_eq (x := x) aw rfl
      rw [hFL] at fe
      generalize L.foldr pressM (List.replicate x.length 45) = FR at fr fe
      have hl2 := hl.mono e
      have pn := press_none (x := x) rfl
      have po := press_onto (x := x) rfl
      have dsh : ∀ {σ : L2.St} {H : Hp}, σ[2]? = some (some (.int (x.length : Int))) → Er K (tOp rMulS (tC (.str (S [45]))) (tVar 2)) σ H (.s (S (List.replicate x.length 45))) := fun {σ H} q => Er.to (er_op (d1 := .s (S [45])) (d2 := .i (x.length : Int)) er_c (er_v q) (ro_mulC (by omega) (by decide))) (by rw [List.flatten_replicate_singleton])
      refine' a_when (K := K) (b := !decide (FL = FL)) ?g17 ?g18 ?g19
      case g17 => exact et1 (er_op (d1 := .s (S FL)) (Er.to (er_call (K := K) (x, FR) (ds := [.s (S x), .s (S FR)]) (era_cons (er_v rfl) (era_cons (er_v rfl) era_nil)) rfl ⟨fr.symm, by show x.length ≤ 1000; omega⟩) (by rw [fe])) (er_v rfl) ro_neC)
      case g18 =>
        intro hb
        simp at hb
      case g19 =>
        intro _ H9 e9
        refine' a_when (K := K) (b := (!decide (x = x) || !decide (x = x))) ?g20 ?g21 ?g22
        case g20 =>
          exact et_orr (et1 (er_op (d1 := .s (S x)) (Er.to (er_call (K := K) (x, List.replicate x.length 45) (ds := [.s (S x), .s (S (List.replicate x.length 45))]) (era_cons (er_v rfl) (era_cons (dsh rfl) era_nil)) rfl ⟨by simp, by show x.length ≤ 1000; omega⟩) (by rw [pn])) (er_v rfl) ro_neC)) fun _ => et1 (er_op (d1 := .s (S x)) (Er.to (er_call (K := K) (List.replicate x.length 45, x) (ds := [.s (S (List.replicate x.length 45)), .s (S x)]) (era_cons (dsh rfl) (era_cons (er_v rfl) era_nil)) rfl ⟨by simp, by simp; omega⟩) (by rw [po])) (er_v rfl) ro_neC)
        case g21 =>
          intro hb
          simp at hb
        case g22 =>
          intro _ H10 e10
          have hl3 := (hl2.mono e9).mono e10
          have g0 : (L.getD 0 []).length = x.length := aw _ (getD_memL (by omega))
          refine' a_setv (K := K) (x := .str (S (pressM x (L.getD 0 [])))) (er_call2 (K := K) (d1 := .s (S (L.getD 0 []))) (d2 := .s (S x)) (x, L.getD 0 []) (Er.to (er_op (er_var rfl hl3) er_c (ro_ixSS (by decide) (by omega))) rfl) (er_v rfl) rfl (by show x.length ≤ 1000; omega)) ?g23
          intro H11 e11
          replace hl3 := hl3.mono e11
          refine' a_rete (K := K) (er_andV (a := true) (b := decide (pressM x (L.getD 0 []) = pressM x (L.getD 0 []))) ?g24 fun _ => ?g25) ?g26 (((e.trans e9).trans e10).trans e11) hk
          case g24 => walk_at "er"
          case g25 => exact er_op (d2 := .s (S (pressM x (L.getD 0 [])))) (er_v rfl) (er_call (K := K) (x, L.getD 0 []) (ds := [.s (S x), .s (S (L.getD 0 []))]) (era_cons (er_v rfl) (era_cons (Er.to (er_op (er_var rfl hl3) er_c (ro_ixSS (by decide) (by omega))) rfl) era_nil)) rfl ⟨by show x.length = (L.getD 0 []).length; omega, by show x.length ≤ 1000; omega⟩) ro_eqC
          show Dd.b (true && decide _) = Dd.b true
          rw [decide_eq_true rfl]
          rfl
end
end Mi

set_option maxHeartbeats 4000000
namespace Mi
open PySem PySem.Spec PyProof.Rows L2 Evl
local macro_rules | `(tactic| walk_at "side") => `(tactic| (first | assumption | omega | exact rfl | decide | (simp only [List.length_cons, List.length_nil, List.length_map, List.length_append, List.length_replicate] <;> omega)))
local macro_rules | `(tactic| walk_at "ro") => `(tactic| (first
  | with_reducible exact ro_I0
  | with_reducible exact ro_1018
  | with_reducible exact ro_neC
  | with_reducible exact ro_eqC
  | with_reducible exact ro_neI
  | with_reducible exact ro_eqI
  | with_reducible exact ro_neB
  | with_reducible exact ro_eqB
  | ((with_reducible apply ro_mod); (walk_at "side"))
  | ((with_reducible apply ro_div) <;> (walk_at "side"))
  | ((with_reducible apply ro_mulL) <;> (walk_at "side"))
  | ((with_reducible apply ro_mulR) <;> (walk_at "side"))
  | ((with_reducible apply ro_addC); (walk_at "side"))
  | ((with_reducible apply ro_ixC) <;> (walk_at "side"))
  | ((with_reducible apply ro_ixI) <;> (walk_at "side"))
  | ((with_reducible apply ro_ixIN) <;> (walk_at "side"))
  | ((with_reducible apply ro_ixT2) <;> (walk_at "side"))
  | ((with_reducible apply ro_ixG) <;> (walk_at "side"))
  | ((with_reducible apply ro_eq); exact rfl)
  | ((with_reducible apply ro_ne); exact rfl)
  | with_reducible exact ro_isN
  | with_reducible exact ro_notN
  | with_reducible exact ro_eqL
  | with_reducible exact ro_neL
  | with_reducible exact ro_eqU
  | ((with_reducible apply ro_cat); (walk_at "side"))
  | with_reducible exact ro_inLi
  | with_reducible exact ro_inNi
  | with_reducible exact ro_inUi
  | ((with_reducible apply ro_inL) <;> (walk_at "side"))
  | ((with_reducible apply ro_inN) <;> (walk_at "side"))
  | ((with_reducible apply ro_inU) <;> (walk_at "side"))))
local macro_rules | `(tactic| walk_at "rc") => `(tactic| (first
  | with_reducible exact rc_int
  | with_reducible exact rc_intB
  | with_reducible exact rc_max2
  | ((with_reducible apply rc_lenC); (walk_at "side"))
  | with_reducible exact rc_lenI
  | with_reducible exact rc_lenT
  | with_reducible exact rc_lenIN
  | with_reducible exact rc_lenTN
  | with_reducible exact rc_lenL
  | with_reducible exact rc_lenN
  | with_reducible exact rc_lenU
  | with_reducible exact rc_listL
  | with_reducible exact rc_listU
  | with_reducible exact rc_tupL
  | with_reducible exact rc_tupN
  | ((with_reducible apply rc_isi_int); decide +kernel)
  | ((with_reducible apply rc_isi_str); decide +kernel)
  | ((with_reducible apply rc_isi_bl); decide +kernel)
  | ((with_reducible apply rc_isi_non); decide +kernel)
  | ((with_reducible apply rc_isi_u); decide +kernel)
  | ((with_reducible apply rc_isi_l); decide +kernel)))
local macro_rules | `(tactic| walk_at "er") => `(tactic| (first
  | ((with_reducible apply er_var); (exact rfl); assumption)
  | ((with_reducible apply er_v); exact rfl)
  | with_reducible exact er_c
  | ((with_reducible apply er_pick); (walk_at "er"); (walk_at "er"); (walk_at "er"))
  | ((with_reducible apply er_op); (walk_at "er"); (walk_at "er"); (walk_at "ro"))
  | ((with_reducible apply er_cb); (walk_at "era"); (walk_at "rc"))
  | ((with_reducible apply er_lst'); (walk_at "era"); (exact rfl); (walk_at "side"))
  | ((with_reducible apply er_tup'); (walk_at "era"); (exact rfl); (walk_at "side"))
  | ((with_reducible apply er_notV); (walk_at "er"))
  | ((with_reducible apply er_andV); (walk_at "er"); (intro _; (walk_at "er")))
  | ((with_reducible apply er_orV); (walk_at "er"); (intro _; (walk_at "er")))
  | ((with_reducible apply er_ite); (walk_at "et"); (intro _; (walk_at "er")); (intro _; (walk_at "er")))))
local macro_rules | `(tactic| walk_at "era") => `(tactic| (first
  | with_reducible exact era_nil
  | ((with_reducible apply era_cons); (walk_at "er"); (walk_at "era"))))
local macro_rules | `(tactic| walk_at "et") => `(tactic| (first
  | ((with_reducible apply et_an); (walk_at "et"); (intro _; (walk_at "et")))
  | ((with_reducible apply et_orr); (walk_at "et"); (intro _; (walk_at "et")))
  | ((with_reducible apply et_nt); (walk_at "et"))
  | ((with_reducible apply et1); (walk_at "er"))
  | ((with_reducible apply et2); (walk_at "er"))))

section
variable {P : Program} {w : World} {K : PySem.W.Frag} {mg : Str → Option Value} {base : Heap} {tD tO : Tok}

abbrev s__law_pair : Stmt := topS 25
theorem sc__law_pair : FnScope ["low", "high", "by_name", "told", "inside", "due", "k"] ["low", "high", "by_name"] (defScope s__law_pair) := ⟨rfl, rfl, rfl, by decide +kernel, rfl, by decide +kernel, by decide +kernel⟩

theorem within_range {low high : List Nat} (h : low.length = high.length) : withinM low high = (List.range low.length).all fun k => okW (low.getD k 0, high.getD k 0) := by
  have e := zip_range h okW
  have e2 : (low.zip high).all okW = ((low.zip high).map okW).all id := by rw [List.all_map]; rfl
  unfold withinM
  rw [e2, e, List.all_map]
  rfl
theorem agree_at {low high : List Nat} (h : low.length = high.length) (ha : agreeM low high = true) {k : Nat} (hk : k < low.length) : okP (low.getD k 0, high.getD k 0) = true := by
  unfold agreeM at ha
  exact List.all_eq_true.mp ha _ (List.mem_of_getElem? (zip_at (get_getD hk) (get_getD (by omega : k < high.length))))
theorem due_eq {low high : List Nat} (h : low.length = high.length) (ha : agreeM low high = true) : (List.range low.length).map (fun k => if low.getD k 0 = 45 then high.getD k 0 else low.getD k 0) = pressM low high := by
  rw [pressM, zip_range h]
  refine List.map_congr_left fun k hk => ?_
  have hk' := List.mem_range.mp hk
  have ok := agree_at h ha hk'
  simp only [okP, Bool.or_eq_true, beq_iff_eq] at ok
  show (if low.getD k 0 = 45 then high.getD k 0 else low.getD k 0) = (if high.getD k 0 = 45 then low.getD k 0 else high.getD k 0)
  by_cases h1 : low.getD k 0 = 45
  · rw [if_pos h1]
    by_cases h2 : high.getD k 0 = 45
    · rw [if_pos h2, h1, h2]
    · rw [if_neg h2]
  · rw [if_neg h1]
    by_cases h2 : high.getD k 0 = 45
    · rw [if_pos h2]
    · rw [if_neg h2]
      rcases ok with ok | ok | ok
      · exact ok
      · exact absurd ok h1
      · exact absurd ok h2
abbrev sp__law_pair (K : PySem.W.Frag) : Sp := spR K (fun a : List Nat × List Nat × Bool => a.1.length = a.2.1.length ∧ a.1.length ≤ 100) (fun a => [.s (S a.1), .s (S a.2.1), .b a.2.2]) fun _ => .b true
theorem has__law_pair (T : Txt K mg tD tO) (h : At K mg "_law_pair" s__law_pair ["low", "high", "by_name"]) (C_agree : Has P w K mg base 1 "agree" ["one", "two"] (sp_agree K)) (C_within : Has P w K mg base 1 "within" ["one", "two"] (sp_within K)) (C_joined : Has P w K mg base 2 "joined" ["one", "two"] (sp_joined K)) (C__law_agree : Has P w K mg base 1 "_law_agree" ["low", "high"] (sp__law_agree K)) : Has P w K mg base 3 "_law_pair" ["low", "high", "by_name"] (sp__law_pair K) := by
  refine h.hasR sc__law_pair (fun _ => rfl) fun f cdv A outer s H a vs Q E hr hp hv hk => ?_
  obtain ⟨low, high, bn⟩ := a
  obtain ⟨h1, h2⟩ := hp
  replace h1 : low.length = high.length := h1
  replace h2 : low.length ≤ 100 := h2
  rcases hv with _ | ⟨rfl, _ | ⟨rfl, _ | ⟨rfl, _ | _⟩⟩⟩
  have h3 : low.length ≤ 1000 := by omega
  have sc := sc__law_pair
  refine ⟨_, (pss_cons (ps_if (pt_val (pv 2)) (pss_one (ps_set (i := 3) sc.nd rfl (Or.inl rfl) (pe_lst (pa_cons (pe_callH2 C_agree (hr.mono (by decide)) (pv 1) (pv 0)) (pa_cons (pe_callH2 C_within (hr.mono (by decide)) (pv 1) (pv 0)) (pa_cons (pe_callH2 C_joined (hr.mono (by decide)) (pv 1) (pv 0)) pa_nil)))))) (pss_one (ps_set (i := 3) sc.nd rfl (Or.inl rfl) (pe_lst (pa_cons (pe_callH C_agree (hr.mono (by decide)) (pa_cons (pv 0) (pa_cons (pv 1) pa_nil))) (pa_cons (pe_callH C_within (hr.mono (by decide)) (pa_cons (pv 0) (pa_cons (pv 1) pa_nil))) (pa_cons (pe_callH C_joined (hr.mono (by decide)) (pa_cons (pv 0) (pa_cons (pv 1) pa_nil))) pa_nil)))))))
    (pss_cons (ps_if (PW.pt (pw_or (pt_not (pt_val (pe_callB (cr_isi_k (K := K)) (by rfl) T.b_isinstance (by decide +kernel) (pa_cons (pe_ix (ix_list_k (K := K)) (pv 3) pe_int (fun _ _ => rfl)) (pa_cons (pe_bltn (v := .ty "bool") (by rfl) T.b_bool (by decide +kernel) rfl) pa_nil))))) (pw_or1 (pt_not (pt_val (pe_callB (cr_isi_k (K := K)) (by rfl) T.b_isinstance (by decide +kernel) (pa_cons (pe_ix (ix_list_k (K := K)) (pv 3) pe_int (fun _ _ => rfl)) (pa_cons (pe_bltn (v := .ty "bool") (by rfl) T.b_bool (by decide +kernel) rfl) pa_nil)))))))) (pss_one (ps_ret pe_bl)) pss_nil)
    (pss_cons (ps_if (pt_cmpR op_ne (pe_ix (ix_list_k (K := K)) (pv 3) pe_int (fun _ _ => rfl)) (pe_callH C__law_agree (hr.mono (by decide)) (pa_cons (pv 0) (pa_cons (pv 1) pa_nil))) (nomark _)) (pss_one (ps_ret pe_bl)) pss_nil)
    (pss_cons (ps_setLc (i := 4) (own := [("k", 6)]) (g := gName 6) (by rfl) sc.nd rfl rfl (sw_true rfl rfl rfl (by decide +kernel)) (pi_range1 (by rfl) T.b_range (pa_cons (pe_callB cr_lenStr (by rfl) T.b_len (by decide +kernel) (pa_cons (pv 0) pa_nil)) pa_nil)) (blkOk_by (N := ["low", "high", "by_name", "told", "inside", "due", "k"]) (sc := defScope s__law_pair) (own := [("k", 6)]) (by decide +kernel)) (fun _ _ _ _ _ => (pg_name (i := 6) sc.nd rfl (Or.inl rfl))) (fun _ _ _ _ _ => (pts_one (PW.pt (pw_or (pt_cmpR op_eq (pe_ix ix_str (pv 0) (pv 6) (fun _ _ => rfl)) (pe_strS [45] (by rfl)) (nomark _)) (pw_or1 (pt_cmpR op_eq (pe_ix ix_str (pv 0) (pv 6) (fun _ _ => rfl)) (pe_ix ix_str (pv 1) (pv 6) (fun _ _ => rfl)) (nomark _))))))) (fun _ _ _ _ _ => (pv 6)))
    (pss_cons (ps_if (pt_cmpR op_ne (pe_ix (ix_list_k (K := K)) (pv 3) pe_int (fun _ _ => rfl)) (pe_cmpR op_eq (pe_callB (cr_len_k (K := K)) (by rfl) T.b_len (by decide +kernel) (pa_cons (pv 4) pa_nil)) (pe_callB cr_lenStr (by rfl) T.b_len (by decide +kernel) (pa_cons (pv 0) pa_nil)) (nomark _)) (nomark _)) (pss_one (ps_ret pe_bl)) pss_nil)
    (pss_cons (ps_if (pt_not (pt_val (pe_ix (ix_list_k (K := K)) (pv 3) pe_int (fun _ _ => rfl)))) (pss_one (ps_ret (pe_cmpR op_isN1 (pe_ix (ix_list_k (K := K)) (pv 3) pe_int (fun _ _ => rfl)) pe_non (nomark _)))) pss_nil)
    (pss_cons (ps_set (i := 5) sc.nd rfl (Or.inl rfl) (pe_bm_k (K := K) PySem.F.plainAttrs_str PySem.F.slot_str_join PySem.F.type_str_join (mt_join_k (K := K)) (pe_strS [] (by rfl)) (pa_cons (pe_lc (own := [("k", 6)]) (g := gName 6) (by rfl) sc.nd (pi_range1 (by rfl) T.b_range (pa_cons (pe_callB cr_lenStr (by rfl) T.b_len (by decide +kernel) (pa_cons (pv 0) pa_nil)) pa_nil)) (blkOk_by (N := ["low", "high", "by_name", "told", "inside", "due", "k"]) (sc := defScope s__law_pair) (own := [("k", 6)]) (by decide +kernel)) (fun _ _ _ _ _ => (pg_name (i := 6) sc.nd rfl (Or.inl rfl))) (fun _ _ _ _ _ => pts_nil) (fun _ _ _ _ _ => (pe_ix (ix_list_k (K := K)) (pe_lst (pa_cons (pe_ix ix_str (pv 0) (pv 6) (fun _ _ => rfl)) (pa_cons (pe_ix ix_str (pv 1) (pv 6) (fun _ _ => rfl)) pa_nil))) (pe_callTy cr_int (by rfl) T.b_int (by decide +kernel) (pa_cons (pe_cmpR op_eq (pe_ix ix_str (pv 0) (pv 6) (fun _ _ => rfl)) (pe_strS [45] (by rfl)) (nomark _)) pa_nil)) (fun _ _ => rfl)))) pa_nil)))
    (pss_one (ps_ret (pe_and (pe_callB (cr_isi_k (K := K)) (by rfl) T.b_isinstance (by decide +kernel) (pa_cons (pe_ix (ix_list_k (K := K)) (pv 3) pe_int (fun _ _ => rfl)) (pa_cons (pe_bltn (v := .ty "str") (by rfl) T.b_str (by decide +kernel) rfl) pa_nil))) (pe_one (pe_cmpR op_eq (pe_ix (ix_list_k (K := K)) (pv 3) pe_int (fun _ _ => rfl)) (pv 5) (nomark _))))))))))))), ?_⟩
  refine' a_ifElse (K := K) (b := bn) (d := .n [.bl (agreeM low high), .bl (withinM low high), if agreeM low high = true then .str (S (pressM low high)) else .non]) (et2 (er_v rfl)) ?g1 ?g2 ?g3
  case g1 =>
    intro _
    exact er_lst (vs := [_, _, _]) (era_cons (er_call2 (K := K) (low, high) (er_v rfl) (er_v rfl) rfl trivial) (era_cons (er_call2 (K := K) (low, high) (er_v rfl) (er_v rfl) rfl trivial) (era_cons (er_call2 (K := K) (low, high) (er_v rfl) (er_v rfl) rfl h3) era_nil))) (by simp)
  case g2 =>
    intro _
    exact er_lst (vs := [_, _, _]) (era_cons (er_call (K := K) (low, high) (by walk_at "era") rfl trivial) (era_cons (er_call (K := K) (low, high) (by walk_at "era") rfl trivial) (era_cons (er_call (K := K) (low, high) (by walk_at "era") rfl h3) era_nil))) (by simp)
  case g3 =>
    intro v H1 e1 hv
    obtain ⟨pt, rfl, hpt⟩ := hv
    have ht : Is K H1 (.n [.bl (agreeM low high), .bl (withinM low high), if agreeM low high = true then .str (S (pressM low high)) else .non]) (.ref pt) := ⟨pt, rfl, hpt⟩
    refine' a_when (K := K) (b := (!true || !true)) ?g4 ?g5 ?g6
    case g4 => exact et_orr (et_nt (et2 (er_cb (era_cons (er_pos (n := 0) (er_var rfl ht) rfl) (era_cons er_c era_nil)) (rc_isi_bl (by decide +kernel))))) fun _ => et_nt (et2 (er_cb (era_cons (er_pos (n := 1) (er_var rfl ht) rfl) (era_cons er_c era_nil)) (rc_isi_bl (by decide +kernel))))
    case g5 =>
      intro hb
      cases hb
    case g6 =>
      intro _ H2 e2
      have ht2 := ht.mono e2
      refine' a_when (K := K) (b := !decide (agreeM low high = agreeM low high)) ?g7 ?g8 ?g9
      case g7 => exact et1 (er_op (er_pos (n := 0) (er_var rfl ht2) rfl) (er_call (K := K) (low, high) (by walk_at "era") rfl ⟨h1, h3⟩) ro_neB)
      case g8 =>
        intro hb
        simp at hb
      case g9 =>
        intro _ H3 e3
        have ht3 := ht2.mono e3
        refine' a_asg (K := K) (er_lcR (K := K) (n := low.length) (vs := [6]) (fun k => decide (low.getD k 0 = 45) || decide (low.getD k 0 = high.getD k 0)) (fun k => .int (k : Int)) ?g10 (by omega) (fun _ => rfl) ?g11 ?g12) ?g13
        case g10 => walk_at "era"
        case g11 =>
          intro i H4 e4 hi
          refine' Et.to (K := K) ?g14 ?g15
          case g14 => walk_at "et"
          rw [Int.toNat_natCast]
          simp
        case g12 =>
          intro i H4 e4 hi _
          exact er_v rfl
        intro v H4 e4 hv4
        obtain ⟨pi, rfl, hpi⟩ := hv4
        have hin : Is K H4 (.n (((List.range low.length).filter fun k => decide (low.getD k 0 = 45) || decide (low.getD k 0 = high.getD k 0)).map fun k : Nat => V.int (k : Int))) (.ref pi) := ⟨pi, rfl, hpi⟩
        have ht4 := ht3.mono e4
        have ew : decide (((((List.range low.length).filter fun k => decide (low.getD k 0 = 45) || decide (low.getD k 0 = high.getD k 0)).map fun k : Nat => V.int (k : Int)).length : Int) = (low.length : Int)) = withinM low high := by
          have e5 := List.length_filter_eq_length_iff (p := fun k => decide (low.getD k 0 = 45) || decide (low.getD k 0 = high.getD k 0)) (l := List.range low.length)
          rw [List.length_range] at e5
          rw [within_range h1, List.length_map, Bool.eq_iff_iff, decide_eq_true_eq, Int.natCast_inj, e5, List.all_eq_true]
          refine forall_congr' fun k => imp_congr_right fun _ => ?_
          simp [okW]
          exact Or.comm
        refine' a_when (K := K) (b := !decide (withinM low high = withinM low high)) ?g16 ?g17 ?g18
        case g16 =>
          refine et1 (er_op (er_pos (n := 1) (er_var rfl ht4) rfl) (Er.to (er_op (er_cb (era_cons (er_var rfl hin) era_nil) rc_lenN) (er_cb (era_cons (er_v rfl) era_nil) (rc_lenC (z := low) (by omega))) ro_eqI) ?g19) ro_neB)
          case g19 => exact congrArg Dd.b ew
        case g17 =>
          intro hb
          simp at hb
        case g18 =>
          intro _ H5 e5
          have ht5 := ht4.mono e5
          refine' a_when (K := K) (b := !agreeM low high) ?g20 ?g21 ?g22
          case g20 => exact et_nt (et2 (er_pos (n := 0) (er_var rfl ht5) rfl))
          case g21 =>
            intro hb H6 e6
            have hb' : agreeM low high = false := by simpa using hb
            have ht6 := ht5.mono e6
            refine a_rete (K := K) (er_op (er_pos (n := 2) (er_var rfl ht6) rfl) er_c ro_isN) ?_ (((((e1.trans e2).trans e3).trans e4).trans e5).trans e6) hk
            rw [hb']
            rfl
          case g22 =>
            intro hb H6 e6
            have hb' : agreeM low high = true := by simpa using hb
            have ht6 := ht5.mono e6
            refine' a_setv (K := K) (x := .str (S (pressM low high))) ?g23 ?g24
            case g23 =>
              refine er_bm (K := K) (d0 := .s (S [])) (ds := [.n ((pressM low high).map fun c => V.str (S [c]))]) er_c (era_cons (Er.to (er_lcR' (K := K) (n := low.length) (vs := [6]) (fun k => V.str (S [if low.getD k 0 = 45 then high.getD k 0 else low.getD k 0])) ?g25 (by omega) (fun _ => rfl) ?g26) ?g27) era_nil) (rm_joinC ?g28)
              case g25 => walk_at "era"
              case g26 =>
                intro i H7 e7 hi
                refine' Er.to (K := K) (er_pickC (c := low.getD i 0) (e := high.getD i 0) ?g29 ?g30 ?g31) ?g32
                case g29 => exact er_op (d1 := .s (S low)) (er_v rfl) (er_v rfl) (ro_ixC (by omega) (by omega) (by omega))
                case g30 => exact er_op (d1 := .s (S high)) (er_v rfl) (er_v rfl) (ro_ixC (by omega) (by omega) (by omega))
                case g31 => walk_at "er"
                rw [Int.toNat_natCast]
                by_cases hc : low.getD i 0 = 45
                · rw [if_pos hc, hc]; rfl
                · rw [if_neg hc, decide_eq_false (by simpa using hc)]; rfl
              case g27 =>
                rw [← due_eq h1 hb', List.map_map]
                rfl
              case g28 =>
                rw [pressM_len h1]
                omega
            intro H7 e7
            have ht7 := ht6.mono e7
            rw [if_pos hb'] at ht7
            refine' a_rete (K := K) (er_andV (a := true) (b := decide (pressM low high = pressM low high)) ?g33 fun _ => ?g34) ?g35 ((((((e1.trans e2).trans e3).trans e4).trans e5).trans e6).trans e7) hk
            case g33 => exact er_cb (era_cons (er_pos (n := 2) (er_var rfl ht7) rfl) (era_cons er_c era_nil)) (rc_isi_str (by decide +kernel))
            case g34 => exact er_op (er_pos (n := 2) (er_var rfl ht7) rfl) (er_v rfl) ro_eqC
            show Dd.b (true && decide _) = Dd.b true
            rw [decide_eq_true rfl]
            rfl
end
end Mi

set_option maxHeartbeats 4000000
namespace Mi
open PySem PySem.Spec PyProof.Rows L2 Evl
local macro_rules | `(tactic| walk_at "side") => `(tactic| (first | assumption | omega | exact rfl | decide | (simp only [List.length_cons, List.length_nil, List.length_map, List.length_append, List.length_replicate] <;> omega)))
local macro_rules | `(tactic| walk_at "ro") => `(tactic| (first
  | with_reducible exact ro_I0
  | with_reducible exact ro_1018
  | with_reducible exact ro_neC
  | with_reducible exact ro_eqC
  | with_reducible exact ro_neI
  | with_reducible exact ro_eqI
  | with_reducible exact ro_neB
  | with_reducible exact ro_eqB
  | ((with_reducible apply ro_mod); (walk_at "side"))
  | ((with_reducible apply ro_div) <;> (walk_at "side"))
  | ((with_reducible apply ro_mulL) <;> (walk_at "side"))
  | ((with_reducible apply ro_mulR) <;> (walk_at "side"))
  | ((with_reducible apply ro_addC); (walk_at "side"))
  | ((with_reducible apply ro_ixC) <;> (walk_at "side"))
  | ((with_reducible apply ro_ixI) <;> (walk_at "side"))
  | ((with_reducible apply ro_ixIN) <;> (walk_at "side"))
  | ((with_reducible apply ro_ixT2) <;> (walk_at "side"))
  | ((with_reducible apply ro_ixG) <;> (walk_at "side"))
  | ((with_reducible apply ro_eq); exact rfl)
  | ((with_reducible apply ro_ne); exact rfl)
  | with_reducible exact ro_isN
  | with_reducible exact ro_notN
  | with_reducible exact ro_eqL
  | with_reducible exact ro_neL
  | with_reducible exact ro_eqU
  | ((with_reducible apply ro_cat); (walk_at "side"))
  | with_reducible exact ro_inLi
  | with_reducible exact ro_inNi
  | with_reducible exact ro_inUi
  | ((with_reducible apply ro_inL) <;> (walk_at "side"))
  | ((with_reducible apply ro_inN) <;> (walk_at "side"))
  | ((with_reducible apply ro_inU) <;> (walk_at "side"))))
local macro_rules | `(tactic| walk_at "rc") => `(tactic| (first
  | with_reducible exact rc_int
  | with_reducible exact rc_intB
  | with_reducible exact rc_max2
  | ((with_reducible apply rc_lenC); (walk_at "side"))
  | with_reducible exact rc_lenI
  | with_reducible exact rc_lenT
  | with_reducible exact rc_lenIN
  | with_reducible exact rc_lenTN
  | with_reducible exact rc_lenL
  | with_reducible exact rc_lenN
  | with_reducible exact rc_lenU
  | with_reducible exact rc_listL
  | with_reducible exact rc_listU
  | with_reducible exact rc_tupL
  | with_reducible exact rc_tupN
  | ((with_reducible apply rc_isi_int); decide +kernel)
  | ((with_reducible apply rc_isi_str); decide +kernel)
  | ((with_reducible apply rc_isi_bl); decide +kernel)
  | ((with_reducible apply rc_isi_non); decide +kernel)
  | ((with_reducible apply rc_isi_u); decide +kernel)
  | ((with_reducible apply rc_isi_l); decide +kernel)))
local macro_rules | `(tactic| walk_at "er") => `(tactic| (first
  | ((with_reducible apply er_var); (exact rfl); assumption)
  | ((with_reducible apply er_v); exact rfl)
  | with_reducible exact er_c
  | ((with_reducible apply er_pick); (walk_at "er"); (walk_at "er"); (walk_at "er"))
  | ((with_reducible apply er_op); (walk_at "er"); (walk_at "er"); (walk_at "ro"))
  | ((with_reducible apply er_cb); (walk_at "era"); (walk_at "rc"))
  | ((with_reducible apply er_lst'); (walk_at "era"); (exact rfl); (walk_at "side"))
  | ((with_reducible apply er_tup'); (walk_at "era"); (exact rfl); (walk_at "side"))
  | ((with_reducible apply er_notV); (walk_at "er"))
  | ((with_reducible apply er_andV); (walk_at "er"); (intro _; (walk_at "er")))
  | ((with_reducible apply er_orV); (walk_at "er"); (intro _; (walk_at "er")))
  | ((with_reducible apply er_ite); (walk_at "et"); (intro _; (walk_at "er")); (intro _; (walk_at "er")))))
local macro_rules | `(tactic| walk_at "era") => `(tactic| (first
  | with_reducible exact era_nil
  | ((with_reducible apply era_cons); (walk_at "er"); (walk_at "era"))))
local macro_rules | `(tactic| walk_at "et") => `(tactic| (first
  | ((with_reducible apply et_an); (walk_at "et"); (intro _; (walk_at "et")))
  | ((with_reducible apply et_orr); (walk_at "et"); (intro _; (walk_at "et")))
  | ((with_reducible apply et_nt); (walk_at "et"))
  | ((with_reducible apply et1); (walk_at "er"))
  | ((with_reducible apply et2); (walk_at "er"))))

section
variable {P : Program} {w : World} {K : PySem.W.Frag} {mg : Str → Option Value} {base : Heap} {tD tO : Tok}

abbrev s__law_cells : Stmt := topS 26
theorem sc__law_cells : FnScope ["low", "by_name", "told", "cell", "k"] ["low", "by_name"] (defScope s__law_cells) := ⟨rfl, rfl, rfl, by decide +kernel, rfl, by decide +kernel, by decide +kernel⟩

theorem cells_range (low : List Nat) : vis (cellsM low) = ((List.range low.length).filter fun k => !decide (low.getD k 0 = 45)).map fun k : Nat => V.int (k : Int) := by
  rw [cellsM, zipIdx_range, List.filter_map, vis, List.map_map, List.map_map]
  rfl
abbrev sp__law_cells (K : PySem.W.Frag) : Sp := spR K (fun a : List Nat × Bool => a.1.length ≤ 100) (fun a => [.s (S a.1), .b a.2]) fun _ => .b true
theorem has__law_cells (T : Txt K mg tD tO) (h : At K mg "_law_cells" s__law_cells ["low", "by_name"]) (C_cells_of : Has P w K mg base 1 "cells_of" ["one"] (sp_cells K)) (C__law_whole : Has P w K mg base 1 "_law_whole" ["value"] (sp__law_whole K)) : Has P w K mg base 2 "_law_cells" ["low", "by_name"] (sp__law_cells K) := by
  refine h.hasR sc__law_cells (fun _ => rfl) fun f cdv A outer s H a vs Q E hr hp hv hk => ?_
  obtain ⟨low, bn⟩ := a
  replace hp : low.length ≤ 100 := hp
  have h3 : low.length ≤ 1000 := by omega
  rcases hv with _ | ⟨rfl, _ | ⟨rfl, _ | _⟩⟩
  have sc := sc__law_cells
  refine ⟨_, (pss_cons (ps_if (pt_val (pv 1)) (pss_one (ps_set (i := 2) sc.nd rfl (Or.inl rfl) (pe_callH1 C_cells_of (hr.mono (by decide)) (pv 0)))) (pss_one (ps_set (i := 2) sc.nd rfl (Or.inl rfl) (pe_callH C_cells_of (hr.mono (by decide)) (pa_cons (pv 0) pa_nil)))))
    (pss_cons (ps_if (pt_not (pt_val (pe_callB (cr_isi_k (K := K)) (by rfl) T.b_isinstance (by decide +kernel) (pa_cons (pv 2) (pa_cons (pe_bltn (v := .ty "tuple") (by rfl) T.b_tuple (by decide +kernel) rfl) pa_nil))))) (pss_one (ps_ret pe_bl)) pss_nil)
    (pss_cons (ps_for PassesOwn.never rfl (pi_tup_k (K := K) (pv 2)) (pg_name (i := 3) sc.nd rfl (Or.inl rfl)) (pss_one (ps_if (pt_not (pt_val (pe_callH C__law_whole (hr.mono (by decide)) (pa_cons (pv 3) pa_nil)))) (pss_one (ps_ret pe_bl)) pss_nil)))
    (pss_one (ps_ret (pe_cmpR (op_eqD_k (K := K) hr.units) (pv 2) (pe_callTy (cr_tuple_k (K := K)) (by rfl) T.b_tuple (by decide +kernel) (pa_cons (pe_lc (own := [("k", 4)]) (g := gName 4) (by rfl) sc.nd (pi_range1 (by rfl) T.b_range (pa_cons (pe_callB cr_lenStr (by rfl) T.b_len (by decide +kernel) (pa_cons (pv 0) pa_nil)) pa_nil)) (blkOk_by (N := ["low", "by_name", "told", "cell", "k"]) (sc := defScope s__law_cells) (own := [("k", 4)]) (by decide +kernel)) (fun _ _ _ _ _ => (pg_name (i := 4) sc.nd rfl (Or.inl rfl))) (fun _ _ _ _ _ => (pts_one (pt_cmpR op_ne (pe_ix ix_str (pv 0) (pv 4) (fun _ _ => rfl)) (pe_strS [45] (by rfl)) (nomark _)))) (fun _ _ _ _ _ => (pv 4))) pa_nil)) (nomark _))))))), ?_⟩
  refine' a_ifElse (K := K) (b := bn) (d := .u (vis (cellsM low))) (et2 (er_v rfl)) (fun _ => er_call1 (K := K) low (er_v rfl) rfl h3) (fun _ => er_call (K := K) low (era_cons (er_v rfl) era_nil) rfl h3) ?g1
  intro v H1 e1 hv
  obtain ⟨pt, rfl, hpt⟩ := hv
  have ht : Is K H1 (.u (vis (cellsM low))) (.ref pt) := ⟨pt, rfl, hpt⟩
  refine' a_when (K := K) (b := !true) (et_nt (et2 (er_cb (era_cons (er_var rfl ht) (era_cons er_c era_nil)) (rc_isi_u (by decide +kernel))))) ?g2 ?g3
  case g2 =>
    intro hb
    cases hb
  case g3 =>
    intro _ H2 e2
    refine b_forU (K := K) (l := pt) (xs := vis (cellsM low)) (er_v rfl) (ex_t e2 hpt) (fun i σ' H' => ∃ y, σ' = [some (.str (S low)), some (.bl bn), some (.ref pt), y, none] ∧ Ex H1 H') (fun H3 e3 => ⟨none, rfl, e2.trans e3⟩) (fun i σ' H' _ ⟨_, _, e⟩ => ex_t e hpt) ?_ ?_
    · rintro i x σ' H' hx ⟨y, rfl, e⟩
      obtain ⟨n, hn, rfl⟩ := vis_at hx
      refine' a_when1 (K := K) (b := !true) (et_nt (et2 (er_call (K := K) n (era_cons (er_v rfl) era_nil) rfl trivial))) ?g4 ?g5
      case g4 =>
        intro hb
        cases hb
      case g5 =>
        intro _ H3 e3
        exact ⟨_, rfl, e.trans e3⟩
    · rintro σ' H' ⟨y, rfl, e⟩
      have ht2 := ht.mono e
      refine' a_rete (K := K) (er_op (er_var rfl ht2) (er_cb (era_cons (Er.to (er_lcR (K := K) (n := low.length) (vs := [4]) (fun k => !decide (low.getD k 0 = 45)) (fun k => .int (k : Int)) ?g6 (by omega) (fun _ => rfl) ?g7 ?g8) ?g9) era_nil) rc_tupN) ro_eqU) ?g10 (e1.trans e) hk
      case g6 => walk_at "era"
      case g7 =>
        intro i H4 e4 hi
        refine' Et.to (K := K) ?g11 ?g12
        case g11 => walk_at "et"
        rw [Int.toNat_natCast]
        simp
      case g8 =>
        intro i H4 e4 hi _
        exact er_v rfl
      case g9 => exact congrArg Dd.n (cells_range low).symm
      show Dd.b (decide (cellsM low = cellsM low)) = Dd.b true
      rw [decide_eq_true rfl]

abbrev s__law_chosen : Stmt := topS 27
theorem sc__law_chosen : FnScope ["low", "picked", "by_name", "told", "k"] ["low", "picked", "by_name"] (defScope s__law_chosen) := ⟨rfl, rfl, rfl, by decide +kernel, rfl, by decide +kernel, by decide +kernel⟩

theorem freed_range (low : List Nat) (cs : List Int) : freedM low cs = (List.range low.length).map fun k : Nat => if (k : Int) ∈ cs then 45 else low.getD k 0 := by
  rw [freedM, zipIdx_range, List.map_map]
  rfl
theorem kept_range (low : List Nat) (cs : List Int) : keptM low cs = (List.range low.length).map fun k : Nat => if (k : Int) ∈ cs then low.getD k 0 else 45 := by
  rw [keptM, zipIdx_range, List.map_map]
  rfl
theorem er_inC {te tc : TE} {σ : L2.St} {H : Hp} {i : Int} {cs : List Int} {d : Dd} (hd : Chosen d cs) (h1 : Er K te σ H (.i i)) (h2 : Er K tc σ H d) : Er K (tOp (rIn K false) te tc) σ H (.b (decide (i ∈ cs))) := by
  rcases hd with rfl | rfl
  · exact er_op h1 h2 ro_inLi
  · exact er_op h1 h2 ro_inUi
abbrev sp__law_chosen (K : PySem.W.Frag) : Sp := spR K (fun a : List Nat × Dd × List Int × Bool => a.1.length ≤ 100 ∧ Chosen a.2.1 a.2.2.1) (fun a => [.s (S a.1), a.2.1, .b a.2.2.2]) fun _ => .b true
theorem has__law_chosen (T : Txt K mg tD tO) (h : At K mg "_law_chosen" s__law_chosen ["low", "picked", "by_name"]) (C_freed : Has P w K mg base 1 "freed" ["one", "chosen"] (sp_freed K)) (C_kept_at : Has P w K mg base 1 "kept_at" ["one", "chosen"] (sp_kept K)) : Has P w K mg base 2 "_law_chosen" ["low", "picked", "by_name"] (sp__law_chosen K) := by
  refine h.hasR sc__law_chosen (fun _ => rfl) fun f cdv A outer s H a vs Q E hr hp hv hk => ?_
  obtain ⟨low, d, cs, bn⟩ := a
  obtain ⟨hp, hd⟩ := hp
  replace hp : low.length ≤ 100 := hp
  replace hd : Chosen d cs := hd
  have h3 : low.length ≤ 1000 := by omega
  rcases hv with _ | ⟨rfl, _ | ⟨hc, _ | ⟨rfl, _ | _⟩⟩⟩
  replace hc := show Is K H d _ from hc
  have sc := sc__law_chosen
  refine ⟨_, (pss_cons (ps_if (pt_val (pv 2)) (pss_one (ps_set (i := 3) sc.nd rfl (Or.inl rfl) (pe_lst (pa_cons (pe_callH2 C_freed (hr.mono (by decide)) (pv 1) (pv 0)) (pa_cons (pe_callH2 C_kept_at (hr.mono (by decide)) (pv 1) (pv 0)) pa_nil))))) (pss_one (ps_set (i := 3) sc.nd rfl (Or.inl rfl) (pe_lst (pa_cons (pe_callH C_freed (hr.mono (by decide)) (pa_cons (pv 0) (pa_cons (pv 1) pa_nil))) (pa_cons (pe_callH C_kept_at (hr.mono (by decide)) (pa_cons (pv 0) (pa_cons (pv 1) pa_nil))) pa_nil))))))
    (pss_cons (ps_if (PW.pt (pw_or (pt_not (pt_val (pe_callB (cr_isi_k (K := K)) (by rfl) T.b_isinstance (by decide +kernel) (pa_cons (pe_ix (ix_list_k (K := K)) (pv 3) pe_int (fun _ _ => rfl)) (pa_cons (pe_bltn (v := .ty "str") (by rfl) T.b_str (by decide +kernel) rfl) pa_nil))))) (pw_or1 (pt_not (pt_val (pe_callB (cr_isi_k (K := K)) (by rfl) T.b_isinstance (by decide +kernel) (pa_cons (pe_ix (ix_list_k (K := K)) (pv 3) pe_int (fun _ _ => rfl)) (pa_cons (pe_bltn (v := .ty "str") (by rfl) T.b_str (by decide +kernel) rfl) pa_nil)))))))) (pss_one (ps_ret pe_bl)) pss_nil)
    (pss_cons (ps_if (pt_cmpR op_ne (pe_ix (ix_list_k (K := K)) (pv 3) pe_int (fun _ _ => rfl)) (pe_bm_k (K := K) PySem.F.plainAttrs_str PySem.F.slot_str_join PySem.F.type_str_join (mt_join_k (K := K)) (pe_strS [] (by rfl)) (pa_cons (pe_lc (own := [("k", 4)]) (g := gName 4) (by rfl) sc.nd (pi_range1 (by rfl) T.b_range (pa_cons (pe_callB cr_lenStr (by rfl) T.b_len (by decide +kernel) (pa_cons (pv 0) pa_nil)) pa_nil)) (blkOk_by (N := ["low", "picked", "by_name", "told", "k"]) (sc := defScope s__law_chosen) (own := [("k", 4)]) (by decide +kernel)) (fun _ _ _ _ _ => (pg_name (i := 4) sc.nd rfl (Or.inl rfl))) (fun _ _ _ _ _ => pts_nil) (fun _ _ _ _ _ => (pe_ix (ix_list_k (K := K)) (pe_lst (pa_cons (pe_ix ix_str (pv 0) (pv 4) (fun _ _ => rfl)) (pa_cons (pe_strS [45] (by rfl)) pa_nil))) (pe_callTy cr_int (by rfl) T.b_int (by decide +kernel) (pa_cons (pe_cmpR (op_in_k (K := K)) (pv 4) (pv 1) rfl) pa_nil)) (fun _ _ => rfl)))) pa_nil)) (nomark _)) (pss_one (ps_ret pe_bl)) pss_nil)
    (pss_one (ps_ret (pe_cmpR op_eq (pe_ix (ix_list_k (K := K)) (pv 3) pe_int (fun _ _ => rfl)) (pe_bm_k (K := K) PySem.F.plainAttrs_str PySem.F.slot_str_join PySem.F.type_str_join (mt_join_k (K := K)) (pe_strS [] (by rfl)) (pa_cons (pe_lc (own := [("k", 4)]) (g := gName 4) (by rfl) sc.nd (pi_range1 (by rfl) T.b_range (pa_cons (pe_callB cr_lenStr (by rfl) T.b_len (by decide +kernel) (pa_cons (pv 0) pa_nil)) pa_nil)) (blkOk_by (N := ["low", "picked", "by_name", "told", "k"]) (sc := defScope s__law_chosen) (own := [("k", 4)]) (by decide +kernel)) (fun _ _ _ _ _ => (pg_name (i := 4) sc.nd rfl (Or.inl rfl))) (fun _ _ _ _ _ => pts_nil) (fun _ _ _ _ _ => (pe_ix (ix_list_k (K := K)) (pe_lst (pa_cons (pe_strS [45] (by rfl)) (pa_cons (pe_ix ix_str (pv 0) (pv 4) (fun _ _ => rfl)) pa_nil))) (pe_callTy cr_int (by rfl) T.b_int (by decide +kernel) (pa_cons (pe_cmpR (op_in_k (K := K)) (pv 4) (pv 1) rfl) pa_nil)) (fun _ _ => rfl)))) pa_nil)) (nomark _))))))), ?_⟩
  refine' a_ifElse (K := K) (b := bn) (d := .n [.str (S (freedM low cs)), .str (S (keptM low cs))]) (et2 (er_v rfl)) ?g1 ?g2 ?g3
  case g1 =>
    intro _
    exact er_lst (vs := [_, _]) (era_cons (er_call2 (K := K) (low, d, cs) (er_var rfl hc) (er_v rfl) rfl ⟨h3, hd⟩) (era_cons (er_call2 (K := K) (low, d, cs) (er_var rfl hc) (er_v rfl) rfl ⟨h3, hd⟩) era_nil)) (by simp)
  case g2 =>
    intro _
    exact er_lst (vs := [_, _]) (era_cons (er_call (K := K) (low, d, cs) (era_cons (er_v rfl) (era_cons (er_var rfl hc) era_nil)) rfl ⟨h3, hd⟩) (era_cons (er_call (K := K) (low, d, cs) (era_cons (er_v rfl) (era_cons (er_var rfl hc) era_nil)) rfl ⟨h3, hd⟩) era_nil)) (by simp)
  case g3 =>
    intro v H1 e1 hv
    obtain ⟨pt, rfl, hpt⟩ := hv
    have ht : Is K H1 (.n [.str (S (freedM low cs)), .str (S (keptM low cs))]) (.ref pt) := ⟨pt, rfl, hpt⟩
    have hc1 := hc.mono e1
    refine' a_when (K := K) (b := (!true || !true)) ?g4 ?g5 ?g6
    case g4 => exact et_orr (et_nt (et2 (er_cb (era_cons (er_pos (n := 0) (er_var rfl ht) rfl) (era_cons er_c era_nil)) (rc_isi_str (by decide +kernel))))) fun _ => et_nt (et2 (er_cb (era_cons (er_pos (n := 1) (er_var rfl ht) rfl) (era_cons er_c era_nil)) (rc_isi_str (by decide +kernel))))
    case g5 =>
      intro hb
      cases hb
    case g6 =>
      intro _ H2 e2
      have ht2 := ht.mono e2
      have hc2 := hc1.mono e2
      refine' a_when (K := K) (b := !decide (freedM low cs = freedM low cs)) ?g7 ?g8 ?g9
      case g7 =>
        refine et1 (er_op (er_pos (n := 0) (er_var rfl ht2) rfl) (er_bm (K := K) (d0 := .s (S [])) (ds := [.n ((freedM low cs).map fun c => V.str (S [c]))]) er_c (era_cons (Er.to (er_lcR' (K := K) (n := low.length) (vs := [4]) (fun k => V.str (S [if (k : Int) ∈ cs then 45 else low.getD k 0])) ?g10 (by omega) (fun _ => rfl) ?g11) ?g12) era_nil) (rm_joinC ?g13)) ro_neC)
        case g10 => walk_at "era"
        case g11 =>
          intro i H7 e7 hi
          refine' Er.to (K := K) (er_pickC (c := low.getD i 0) (e := 45) ?g14 ?g15 (er_inC hd ?g16 (er_var rfl (hc2.mono e7)))) ?g17
          case g14 => exact Er.to (er_op (d1 := .s (S low)) (er_v rfl) (er_v rfl) (ro_ixC (by omega) (by omega) (by omega))) (by rw [Int.toNat_natCast])
          case g15 => exact er_c
          case g16 => exact er_v rfl
          by_cases hh : (i : Int) ∈ cs
          · rw [if_pos hh, decide_eq_true hh]; rfl
          · rw [if_neg hh, decide_eq_false hh]; rfl
        case g12 =>
          rw [freed_range, List.map_map]
          rfl
        case g13 =>
          rw [freed_range, List.length_map, List.length_range]
          omega
      case g8 =>
        intro hb
        simp at hb
      case g9 =>
        intro _ H3 e3
        have ht3 := ht2.mono e3
        have hc3 := hc2.mono e3
        refine' a_rete (K := K) (er_op (er_pos (n := 1) (er_var rfl ht3) rfl) (er_bm (K := K) (d0 := .s (S [])) (ds := [.n ((keptM low cs).map fun c => V.str (S [c]))]) er_c (era_cons (Er.to (er_lcR' (K := K) (n := low.length) (vs := [4]) (fun k => V.str (S [if (k : Int) ∈ cs then low.getD k 0 else 45])) ?g20 (by omega) (fun _ => rfl) ?g21) ?g22) era_nil) (rm_joinC ?g23)) ro_eqC) ?g28 ((e1.trans e2).trans e3) hk
        case g20 => walk_at "era"
        case g21 =>
          intro i H7 e7 hi
          refine' Er.to (K := K) (er_pickC (c := 45) (e := low.getD i 0) ?g24 ?g25 (er_inC hd ?g26 (er_var rfl (hc3.mono e7)))) ?g27
          case g24 => exact er_c
          case g25 => exact Er.to (er_op (d1 := .s (S low)) (er_v rfl) (er_v rfl) (ro_ixC (by omega) (by omega) (by omega))) (by rw [Int.toNat_natCast])
          case g26 => exact er_v rfl
          by_cases hh : (i : Int) ∈ cs
          · rw [if_pos hh, decide_eq_true hh]; rfl
          · rw [if_neg hh, decide_eq_false hh]; rfl
        case g22 =>
          rw [kept_range, List.map_map]
          rfl
        case g23 =>
          rw [kept_range, List.length_map, List.length_range]
          omega
        show Dd.b (decide (keptM low cs = keptM low cs)) = Dd.b true
        rw [decide_eq_true rfl]

abbrev s__law_alone : Stmt := topS 28
theorem sc__law_alone : FnScope ["low", "wide", "by_name", "told", "sign"] ["low", "wide", "by_name"] (defScope s__law_alone) := ⟨rfl, rfl, rfl, by decide +kernel, rfl, by decide +kernel, by decide +kernel⟩

abbrev sp__law_alone (K : PySem.W.Frag) : Sp := spR K (fun a : List Nat × Nat × Bool => a.1.length ≤ 100 ∧ a.2.1 ≤ 1000) (fun a => [.s (S a.1), .i (a.2.1 : Int), .b a.2.2]) fun _ => .b true
theorem has__law_alone (T : Txt K mg tD tO) (h : At K mg "_law_alone" s__law_alone ["low", "wide", "by_name"]) (C_filled : Has P w K mg base 1 "filled" ["one"] (sp_filled K)) (C_empty_layer : Has P w K mg base 1 "empty_layer" ["size"] (sp_empty K)) : Has P w K mg base 2 "_law_alone" ["low", "wide", "by_name"] (sp__law_alone K) := by
  refine h.hasR sc__law_alone (fun _ => rfl) fun f cdv A outer s H a vs Q E hr hp hv hk => ?_
  obtain ⟨low, wide, bn⟩ := a
  obtain ⟨hp, hw⟩ := hp
  replace hp : low.length ≤ 100 := hp
  replace hw : wide ≤ 1000 := hw
  have h3 : low.length ≤ 1000 := by omega
  rcases hv with _ | ⟨rfl, _ | ⟨rfl, _ | ⟨rfl, _ | _⟩⟩⟩
  have sc := sc__law_alone
  refine ⟨_, (pss_cons (ps_if (pt_val (pv 2)) (pss_one (ps_set (i := 3) sc.nd rfl (Or.inl rfl) (pe_lst (pa_cons (pe_callH1 C_filled (hr.mono (by decide)) (pv 0)) (pa_cons (pe_callH1 C_empty_layer (hr.mono (by decide)) (pv 1)) pa_nil))))) (pss_one (ps_set (i := 3) sc.nd rfl (Or.inl rfl) (pe_lst (pa_cons (pe_callH C_filled (hr.mono (by decide)) (pa_cons (pv 0) pa_nil)) (pa_cons (pe_callH C_empty_layer (hr.mono (by decide)) (pa_cons (pv 1) pa_nil)) pa_nil))))))
    (pss_cons (ps_if (PW.pt (pw_or (pt_not (pt_val (pe_callB (cr_isi_k (K := K)) (by rfl) T.b_isinstance (by decide +kernel) (pa_cons (pe_ix (ix_list_k (K := K)) (pv 3) pe_int (fun _ _ => rfl)) (pa_cons (pe_bltn (v := .ty "str") (by rfl) T.b_str (by decide +kernel) rfl) pa_nil))))) (pw_or1 (pt_not (pt_val (pe_callB (cr_isi_k (K := K)) (by rfl) T.b_isinstance (by decide +kernel) (pa_cons (pe_ix (ix_list_k (K := K)) (pv 3) pe_int (fun _ _ => rfl)) (pa_cons (pe_bltn (v := .ty "str") (by rfl) T.b_str (by decide +kernel) rfl) pa_nil)))))))) (pss_one (ps_ret pe_bl)) pss_nil)
    (pss_one (ps_ret (pe_and (pe_cmpR op_eq (pe_ix (ix_list_k (K := K)) (pv 3) pe_int (fun _ _ => rfl)) (pe_bm_k (K := K) PySem.F.plainAttrs_str PySem.F.slot_str_join PySem.F.type_str_join (mt_join_k (K := K)) (pe_strS [] (by rfl)) (pa_cons (pe_lc (own := [("sign", 4)]) (g := gName 4) (by rfl) sc.nd (pi_str (pv 0)) (blkOk_by (N := ["low", "wide", "by_name", "told", "sign"]) (sc := defScope s__law_alone) (own := [("sign", 4)]) (by decide +kernel)) (fun _ _ _ _ _ => (pg_name (i := 4) sc.nd rfl (Or.inl rfl))) (fun _ _ _ _ _ => pts_nil) (fun _ _ _ _ _ => (pe_ix (ix_list_k (K := K)) (pe_lst (pa_cons (pv 4) (pa_cons (pe_strS [46] (by rfl)) pa_nil))) (pe_callTy cr_int (by rfl) T.b_int (by decide +kernel) (pa_cons (pe_cmpR op_eq (pv 4) (pe_strS [45] (by rfl)) (nomark _)) pa_nil)) (fun _ _ => rfl)))) pa_nil)) (nomark _)) (pe_one (pe_cmpR op_eq (pe_ix (ix_list_k (K := K)) (pv 3) pe_int (fun _ _ => rfl)) (pe_op op_mulS (pe_strS [45] (by rfl)) (pv 1)) (nomark _)))))))), ?_⟩
  refine' a_ifElse (K := K) (b := bn) (d := .n [.str (S (filledM low)), .str (S (List.replicate wide 45))]) (et2 (er_v rfl)) ?g1 ?g2 ?g3
  case g1 =>
    intro _
    exact er_lst (vs := [_, _]) (era_cons (er_call1 (K := K) low (er_v rfl) rfl h3) (era_cons (er_call1 (K := K) wide (er_v rfl) rfl hw) era_nil)) (by simp)
  case g2 =>
    intro _
    exact er_lst (vs := [_, _]) (era_cons (er_call (K := K) low (era_cons (er_v rfl) era_nil) rfl h3) (era_cons (er_call (K := K) wide (era_cons (er_v rfl) era_nil) rfl hw) era_nil)) (by simp)
  case g3 =>
    intro v H1 e1 hv
    obtain ⟨pt, rfl, hpt⟩ := hv
    have ht : Is K H1 (.n [.str (S (filledM low)), .str (S (List.replicate wide 45))]) (.ref pt) := ⟨pt, rfl, hpt⟩
    refine' a_when (K := K) (b := (!true || !true)) ?g4 ?g5 ?g6
    case g4 => exact et_orr (et_nt (et2 (er_cb (era_cons (er_pos (n := 0) (er_var rfl ht) rfl) (era_cons er_c era_nil)) (rc_isi_str (by decide +kernel))))) fun _ => et_nt (et2 (er_cb (era_cons (er_pos (n := 1) (er_var rfl ht) rfl) (era_cons er_c era_nil)) (rc_isi_str (by decide +kernel))))
    case g5 =>
      intro hb
      cases hb
    case g6 =>
      intro _ H2 e2
      have ht2 := ht.mono e2
      refine' a_rete (K := K) (er_andV (a := decide (filledM low = filledM low)) (b := decide (List.replicate wide 45 = List.replicate wide 45)) ?g7 fun _ => ?g8) ?g9 (e1.trans e2) hk
      case g7 =>
        refine er_op (er_pos (n := 0) (er_var rfl ht2) rfl) (er_bm (K := K) (d0 := .s (S [])) (ds := [.n ((filledM low).map fun c => V.str (S [c]))]) er_c (era_cons (Er.to (c_lcS' (K := K) (z := low) (vs := [4]) (fun c => V.str (S [if c = 45 then 46 else c])) (er_v rfl) (by omega) (fun _ => rfl) ?g10) ?g11) era_nil) (rm_joinC ?g12)) ro_eqC
        case g10 =>
          intro i c H7 e7 hi
          refine' Er.to (K := K) (er_pickC (c := c) (e := 46) ?g13 ?g14 ?g15) ?g16
          case g13 => exact er_v rfl
          case g14 => exact er_c
          case g15 => walk_at "er"
          by_cases hc : c = 45
          · rw [if_pos hc, hc]; rfl
          · rw [if_neg hc, decide_eq_false (by simpa using hc)]; rfl
        case g11 =>
          rw [filledM, List.map_map]
          rfl
        case g12 =>
          rw [filledM, List.length_map]
          omega
      case g8 => exact er_op (er_pos (n := 1) (er_var rfl ht2) rfl) (Er.to (er_op (d1 := .s (S [45])) (d2 := .i (wide : Int)) er_c (er_v rfl) (ro_mulC hw (by decide))) (by rw [List.flatten_replicate_singleton])) ro_eqC
      show Dd.b (decide _ && decide _) = Dd.b true
      rw [decide_eq_true rfl, decide_eq_true rfl]
      rfl
end
end Mi

set_option maxHeartbeats 4000000
namespace Mi
open PySem PySem.Spec PyProof.Rows L2 Evl
local macro_rules | `(tactic| walk_at "side") => `(tactic| (first | assumption | omega | exact rfl | decide | (simp only [List.length_cons, List.length_nil, List.length_map, List.length_append, List.length_replicate] <;> omega)))
local macro_rules | `(tactic| walk_at "ro") => `(tactic| (first
  | with_reducible exact ro_I0
  | with_reducible exact ro_1018
  | with_reducible exact ro_neC
  | with_reducible exact ro_eqC
  | with_reducible exact ro_neI
  | with_reducible exact ro_eqI
  | with_reducible exact ro_neB
  | with_reducible exact ro_eqB
  | ((with_reducible apply ro_mod); (walk_at "side"))
  | ((with_reducible apply ro_div) <;> (walk_at "side"))
  | ((with_reducible apply ro_mulL) <;> (walk_at "side"))
  | ((with_reducible apply ro_mulR) <;> (walk_at "side"))
  | ((with_reducible apply ro_addC); (walk_at "side"))
  | ((with_reducible apply ro_ixC) <;> (walk_at "side"))
  | ((with_reducible apply ro_ixI) <;> (walk_at "side"))
  | ((with_reducible apply ro_ixIN) <;> (walk_at "side"))
  | ((with_reducible apply ro_ixT2) <;> (walk_at "side"))
  | ((with_reducible apply ro_ixG) <;> (walk_at "side"))
  | ((with_reducible apply ro_eq); exact rfl)
  | ((with_reducible apply ro_ne); exact rfl)
  | with_reducible exact ro_isN
  | with_reducible exact ro_notN
  | with_reducible exact ro_eqL
  | with_reducible exact ro_neL
  | with_reducible exact ro_eqU
  | ((with_reducible apply ro_cat); (walk_at "side"))
  | with_reducible exact ro_inLi
  | with_reducible exact ro_inNi
  | with_reducible exact ro_inUi
  | ((with_reducible apply ro_inL) <;> (walk_at "side"))
  | ((with_reducible apply ro_inN) <;> (walk_at "side"))
  | ((with_reducible apply ro_inU) <;> (walk_at "side"))))
local macro_rules | `(tactic| walk_at "rc") => `(tactic| (first
  | with_reducible exact rc_int
  | with_reducible exact rc_intB
  | with_reducible exact rc_max2
  | ((with_reducible apply rc_lenC); (walk_at "side"))
  | with_reducible exact rc_lenI
  | with_reducible exact rc_lenT
  | with_reducible exact rc_lenIN
  | with_reducible exact rc_lenTN
  | with_reducible exact rc_lenL
  | with_reducible exact rc_lenN
  | with_reducible exact rc_lenU
  | with_reducible exact rc_listL
  | with_reducible exact rc_listU
  | with_reducible exact rc_tupL
  | with_reducible exact rc_tupN
  | ((with_reducible apply rc_isi_int); decide +kernel)
  | ((with_reducible apply rc_isi_str); decide +kernel)
  | ((with_reducible apply rc_isi_bl); decide +kernel)
  | ((with_reducible apply rc_isi_non); decide +kernel)
  | ((with_reducible apply rc_isi_u); decide +kernel)
  | ((with_reducible apply rc_isi_l); decide +kernel)))
local macro_rules | `(tactic| walk_at "er") => `(tactic| (first
  | ((with_reducible apply er_var); (exact rfl); assumption)
  | ((with_reducible apply er_v); exact rfl)
  | with_reducible exact er_c
  | ((with_reducible apply er_pick); (walk_at "er"); (walk_at "er"); (walk_at "er"))
  | ((with_reducible apply er_op); (walk_at "er"); (walk_at "er"); (walk_at "ro"))
  | ((with_reducible apply er_cb); (walk_at "era"); (walk_at "rc"))
  | ((with_reducible apply er_lst'); (walk_at "era"); (exact rfl); (walk_at "side"))
  | ((with_reducible apply er_tup'); (walk_at "era"); (exact rfl); (walk_at "side"))
  | ((with_reducible apply er_notV); (walk_at "er"))
  | ((with_reducible apply er_andV); (walk_at "er"); (intro _; (walk_at "er")))
  | ((with_reducible apply er_orV); (walk_at "er"); (intro _; (walk_at "er")))
  | ((with_reducible apply er_ite); (walk_at "et"); (intro _; (walk_at "er")); (intro _; (walk_at "er")))))
local macro_rules | `(tactic| walk_at "era") => `(tactic| (first
  | with_reducible exact era_nil
  | ((with_reducible apply era_cons); (walk_at "er"); (walk_at "era"))))
local macro_rules | `(tactic| walk_at "et") => `(tactic| (first
  | ((with_reducible apply et_an); (walk_at "et"); (intro _; (walk_at "et")))
  | ((with_reducible apply et_orr); (walk_at "et"); (intro _; (walk_at "et")))
  | ((with_reducible apply et_nt); (walk_at "et"))
  | ((with_reducible apply et1); (walk_at "er"))
  | ((with_reducible apply et2); (walk_at "er"))))

section
variable {P : Program} {w : World} {K : PySem.W.Frag} {mg : Str → Option Value} {base : Heap} {tD tO : Tok}

abbrev s_law : Stmt := topS 36
theorem sc_law : FnScope ["script", "head", "wide", "inks", "low", "free", "place", "high", "row", "cells", "first", "layers", "turn", "pair", "picked", "marked", "k"] ["script"] (defScope s_law) := ⟨rfl, rfl, rfl, by decide +kernel, rfl, by decide +kernel, by decide +kernel⟩

def szH : List Int := [40, 4, 4, 27, 26, 25, 8, 4, 10, 840, 26, 30, 44, 2]
theorem szH_few : szH.length ≤ 1000 := by decide
theorem szH_bd : ∀ s ∈ szH, 0 < s ∧ s < 1000000 := by decide
def sz112 : List Int := List.replicate 30 112
def sz2 : List Int := List.replicate 30 2
def szR (wd : Nat) : List Int := [36, 2, 6] ++ List.replicate 36 (wd : Int)
theorem szR_bd {wd : Nat} (h : 1 ≤ wd ∧ wd ≤ 30) : ∀ s ∈ szR wd, 0 < s ∧ s < 1000000 := by
  intro s hs
  rcases List.mem_append.mp hs with hs | hs
  · have hd : ∀ s ∈ ([36, 2, 6] : List Int), 0 < s ∧ s < 1000000 := by decide
    exact hd s hs
  · rw [(List.mem_replicate.mp hs).2]
    omega
theorem sz112_few : sz112.length ≤ 1000 := by decide
theorem sz112_bd : ∀ s ∈ sz112, 0 < s ∧ s < 1000000 := by decide
theorem sz2_few : sz2.length ≤ 1000 := by decide
theorem sz2_bd : ∀ s ∈ sz2, 0 < s ∧ s < 1000000 := by decide
theorem szR_few (wd : Nat) : (szR wd).length ≤ 1000 := by
  unfold szR
  simp
theorem inksM_ok {sp : List Int} (h : InkOk sp) : 1 ≤ (inksM sp).length ∧ (inksM sp).length ≤ 27 ∧ ∀ c ∈ inksM sp, c ∈ signs := by
  have hF := inkF_bd h
  obtain ⟨_, _, h0, _⟩ := h
  have la : alls.length = 27 := rfl
  unfold inksM
  split
  · exact ⟨by decide, by decide, fun c hc => List.mem_cons_of_mem _ hc⟩
  · have m4 : ∀ j : Nat, j < 4 → 2 ≤ ([3, 3, 3, 2] : List Nat).getD j 0 ∧ ([3, 3, 3, 2] : List Nat).getD j 0 ≤ 3 := by decide
    have q := m4 (sp.getD 0 0).toNat (by omega)
    have b2 : (ink2 (inkF sp) (sp.getD 3 0)).toNat < 27 := by
      have h0 : 0 ≤ ink2 (inkF sp) (sp.getD 3 0) := Int.emod_nonneg _ (by decide)
      have h1 : ink2 (inkF sp) (sp.getD 3 0) < 27 := Int.emod_lt_of_pos _ (by decide)
      omega
    have b3 : (ink3 (inkF sp) (sp.getD 3 0) (sp.getD 4 0)).toNat < 27 := by
      unfold ink3
      split <;> omega
    generalize ([3, 3, 3, 2] : List Nat).getD (sp.getD 0 0).toNat 0 = n at q ⊢
    refine ⟨by rw [List.length_take]; show 1 ≤ min n 3; omega, by rw [List.length_take]; show min n 3 ≤ 27; omega, fun c hc => List.mem_cons_of_mem _ ?_⟩
    have hc2 := List.mem_of_mem_take hc
    simp only [List.mem_cons, List.not_mem_nil, or_false] at hc2
    rcases hc2 with rfl | rfl | rfl
    · exact getD_memL (by rw [la]; omega)
    · exact getD_memL (by rw [la]; omega)
    · exact getD_memL (by rw [la]; omega)
theorem secM_ok {wd : Nat} {low free : List Nat} {mode : Int} {place : Nat} {step : Int} {turns : List Int} (h1 : Good wd low) (h2 : Good wd free) : Good wd (secM low free mode place step turns low.length) := by
  refine ⟨by rw [secM_len]; exact h1.1, fun c hc => ?_⟩
  unfold secM at hc
  obtain ⟨k, hk, rfl⟩ := List.mem_map.mp hc
  have hk' := List.mem_range.mp hk
  have e1 := h1.1
  have e2 := h2.1
  exact secC_mem hk' (by omega) h1.2 h2.2
theorem er_listC {te : TE} {σ : L2.St} {H : Hp} {cs : List Int} {d : Dd} (hd : Chosen d cs) (h : Er K te σ H d) : Er K (tCB (rListS K) (tCons te tNil)) σ H (.n (vis cs)) := by
  rcases hd with rfl | rfl
  · exact er_cb (era_cons h era_nil) rc_listL
  · exact er_cb (era_cons h era_nil) rc_listU
abbrev spLaw (K : PySem.W.Frag) : Sp := spR K (fun ns : List Int => ns.length ≤ 63) (fun ns => [.l (vis ns)]) fun _ => .b true
theorem fn_law {f0 : Addr} {fd0 : FuncData} (T : Txt K mg tD tO) (F : Fun K "law" "law" s_law f0 fd0)
    (C__law_draw : Has P w K mg base 2 "_law_draw" ["script", "k", "sizes"] (sp__law_draw K)) (C__law_size : Has P w K mg base 1 "_law_size" ["digit"] (sp__law_size K)) (C__law_inks : Has P w K mg base 1 "_law_inks" ["spots"] (sp__law_inks K)) (C__law_layer : Has P w K mg base 1 "_law_layer" ["inks", "share", "spots", "wide"] (sp__law_layer K))
    (C__law_second : Has P w K mg base 2 "_law_second" ["low", "free", "mode", "place", "step", "turns"] (sp__law_second K)) (C__law_layers : Has P w K mg base 3 "_law_layers" ["script", "at", "inks", "wide", "many"] (sp__law_layers K))
    (C__law_pair : Has P w K mg base 3 "_law_pair" ["low", "high", "by_name"] (sp__law_pair K)) (C__law_cells : Has P w K mg base 2 "_law_cells" ["low", "by_name"] (sp__law_cells K)) (C__law_chosen : Has P w K mg base 2 "_law_chosen" ["low", "picked", "by_name"] (sp__law_chosen K)) (C__law_alone : Has P w K mg base 2 "_law_alone" ["low", "wide", "by_name"] (sp__law_alone K))
    (C__law_presses_right : Has P w K mg base 3 "_law_presses_right" ["first", "layers"] (sp__law_presses_right K)) (C__law_sorted_right : Has P w K mg base 5 "_law_sorted_right" ["layers"] (sp__law_sorted_right K)) : FnOk P w K mg base CX0 6 f0 fd0 ["script"] (spLaw K) := by
  refine fnR F sc_law (fun _ => rfl) fun f cdv A outer s H ns vs Q E hr hp hv hk => ?_
  replace hp : ns.length ≤ 63 := hp
  rcases hv with _ | ⟨⟨p, rfl, hS⟩, _ | _⟩
  have hs : Is K H (.l (vis ns)) (.ref p) := ⟨p, rfl, hS⟩
  have sc := sc_law
  have posH : ∀ s ∈ szH, 0 < s := by decide
  refine ⟨_, (pss_cons (ps_set (i := 1) sc.nd rfl (Or.inl rfl) (pe_callH C__law_draw (hr.mono (by decide)) (pa_cons (pv 0) (pa_cons pe_int (pa_cons (pe_lst (pa_cons pe_int (pa_cons pe_int (pa_cons pe_int (pa_cons pe_int (pa_cons pe_int (pa_cons pe_int (pa_cons pe_int (pa_cons pe_int (pa_cons pe_int (pa_cons pe_int (pa_cons pe_int (pa_cons pe_int (pa_cons pe_int (pa_cons pe_int pa_nil))))))))))))))) pa_nil)))))
    (pss_cons (ps_set (i := 2) sc.nd rfl (Or.inr rfl) (pe_callH C__law_size (hr.mono (by decide)) (pa_cons (pe_ix (ix_list_k (K := K)) (pv 1) pe_int (fun _ _ => rfl)) pa_nil)))
    (pss_cons (ps_set (i := 3) sc.nd rfl (Or.inl rfl) (pe_callH C__law_inks (hr.mono (by decide)) (pa_cons (pe_slice (sl_list_k (K := K)) (pv 1) (po_some pe_int) po_none) pa_nil)))
    (pss_cons (ps_set (i := 4) sc.nd rfl (Or.inl rfl) (pe_callH C__law_layer (hr.mono (by decide)) (pa_cons (pv 3) (pa_cons (pe_ix (ix_list_k (K := K)) (pe_lst (pa_cons pe_int (pa_cons pe_int (pa_cons pe_int (pa_cons pe_int (pa_cons pe_int (pa_cons pe_int (pa_cons pe_int (pa_cons pe_int pa_nil))))))))) (pe_ix (ix_list_k (K := K)) (pv 1) pe_int (fun _ _ => rfl)) (fun _ _ => rfl)) (pa_cons (pe_callH C__law_draw (hr.mono (by decide)) (pa_cons (pv 0) (pa_cons pe_int (pa_cons (pe_op op_rep (pe_lst (pa_cons pe_int pa_nil)) pe_int) pa_nil)))) (pa_cons (pv 2) pa_nil))))))
    (pss_cons (ps_set (i := 5) sc.nd rfl (Or.inl rfl) (pe_callH C__law_layer (hr.mono (by decide)) (pa_cons (pv 3) (pa_cons (pe_ix (ix_list_k (K := K)) (pv 1) pe_int (fun _ _ => rfl)) (pa_cons (pe_callH C__law_draw (hr.mono (by decide)) (pa_cons (pv 0) (pa_cons pe_int (pa_cons (pe_op op_rep (pe_lst (pa_cons pe_int pa_nil)) pe_int) pa_nil)))) (pa_cons (pv 2) pa_nil))))))
    (pss_cons (ps_set (i := 6) sc.nd rfl (Or.inl rfl) (pe_op op_mod (pe_callTy cr_int (by rfl) T.b_int (by decide +kernel) (pa_cons (pe_ix (ix_list_k (K := K)) (pv 1) pe_int (fun _ _ => rfl)) pa_nil)) (pv 2)))
    (pss_cons (ps_set (i := 7) sc.nd rfl (Or.inl rfl) (pe_callH C__law_second (hr.mono (by decide)) (pa_cons (pv 4) (pa_cons (pv 5) (pa_cons (pe_ix (ix_list_k (K := K)) (pv 1) pe_int (fun _ _ => rfl)) (pa_cons (pv 6) (pa_cons (pe_ix (ix_list_k (K := K)) (pv 1) pe_int (fun _ _ => rfl)) (pa_cons (pe_callH C__law_draw (hr.mono (by decide)) (pa_cons (pv 0) (pa_cons pe_int (pa_cons (pe_op op_rep (pe_lst (pa_cons pe_int pa_nil)) pe_int) pa_nil)))) pa_nil))))))))
    (pss_cons (ps_set (i := 8) sc.nd rfl (Or.inl rfl) (pe_callH C__law_draw (hr.mono (by decide)) (pa_cons (pv 0) (pa_cons pe_int (pa_cons (pe_op op_cat (pe_lst (pa_cons pe_int (pa_cons pe_int (pa_cons pe_int pa_nil)))) (pe_op op_rep (pe_lst (pa_cons (pv 2) pa_nil)) pe_int)) pa_nil)))))
    (pss_cons (ps_set (i := 9) sc.nd rfl (Or.inl rfl) (pe_slice (sl_list_k (K := K)) (pv 8) (po_some pe_int) (po_some (pe_op op_add pe_int (pe_ix (ix_list_k (K := K)) (pv 8) pe_int (fun _ _ => rfl))))))
    (pss_cons (ps_if (pt_cmpR op_eq (pe_ix (ix_list_k (K := K)) (pv 8) pe_int (fun _ _ => rfl)) pe_int (nomark _)) (pss_one (ps_setLc (i := 9) (own := [("k", 16)]) (g := gName 16) (by rfl) sc.nd rfl rfl (sw_true rfl rfl rfl (by decide +kernel)) (pi_range1 (by rfl) T.b_range (pa_cons (pv 2) pa_nil)) (blkOk_by (N := ["script", "head", "wide", "inks", "low", "free", "place", "high", "row", "cells", "first", "layers", "turn", "pair", "picked", "marked", "k"]) (sc := defScope s_law) (own := [("k", 16)]) (by decide +kernel)) (fun _ _ _ _ _ => (pg_name (i := 16) sc.nd rfl (Or.inl rfl))) (fun _ _ _ _ _ => pts_nil) (fun _ _ _ _ _ => (pe_op op_sub (pe_op op_sub (pv 2) pe_int) (pv 16))))) pss_nil)
    (pss_cons (ps_set (i := 10) sc.nd rfl (Or.inl rfl) (pe_callH C__law_layer (hr.mono (by decide)) (pa_cons (pv 3) (pa_cons (pe_ix (ix_list_k (K := K)) (pe_lst (pa_cons pe_int (pa_cons pe_int pa_nil))) (pe_ix (ix_list_k (K := K)) (pv 1) pe_int (fun _ _ => rfl)) (fun _ _ => rfl)) (pa_cons (pe_callH C__law_draw (hr.mono (by decide)) (pa_cons (pv 0) (pa_cons pe_int (pa_cons (pe_op op_rep (pe_lst (pa_cons pe_int pa_nil)) pe_int) pa_nil)))) (pa_cons (pv 2) pa_nil))))))
    (pss_cons (ps_set (i := 11) sc.nd rfl (Or.inl rfl) (pe_callH C__law_layers (hr.mono (by decide)) (pa_cons (pv 0) (pa_cons pe_int (pa_cons (pv 3) (pa_cons (pv 2) (pa_cons (pe_ix (ix_list_k (K := K)) (pe_lst (pa_cons (pe_op op_add (pe_ix (ix_list_k (K := K)) (pv 1) pe_int (fun _ _ => rfl)) pe_int) (pa_cons pe_int (pa_cons pe_int (pa_cons pe_int (pa_cons pe_int pa_nil)))))) (pe_callB cr_max2 (by rfl) T.b_max (by decide +kernel) (pa_cons pe_int (pa_cons (pe_op op_sub (pe_ix (ix_list_k (K := K)) (pv 1) pe_int (fun _ _ => rfl)) pe_int) pa_nil))) (fun _ _ => rfl)) pa_nil)))))))
    (pss_cons (ps_for PassesOwn.never rfl (pi_range1 (by rfl) T.b_range (pa_cons pe_int pa_nil)) (pg_name (i := 12) sc.nd rfl (Or.inl rfl)) (pss_one (ps_for PassesOwn.never rfl (pi_list_k (K := K) (pe_lst (pa_cons (pe_lst (pa_cons (pv 4) (pa_cons (pv 7) pa_nil))) (pa_cons (pe_lst (pa_cons (pv 7) (pa_cons (pv 4) pa_nil))) (pa_cons (pe_lst (pa_cons (pv 4) (pa_cons (pv 4) pa_nil))) (pa_cons (pe_lst (pa_cons (pv 7) (pa_cons (pv 7) pa_nil))) pa_nil)))))) (pg_name (i := 13) sc.nd rfl (Or.inr rfl)) (pss_cons (ps_if (pt_not (pt_val (pe_callH C__law_pair (hr.mono (by decide)) (pa_cons (pe_ix (ix_list_k (K := K)) (pv 13) pe_int (fun _ _ => rfl)) (pa_cons (pe_ix (ix_list_k (K := K)) (pv 13) pe_int (fun _ _ => rfl)) (pa_cons (pe_cmpR op_eq (pv 12) pe_int (nomark _)) pa_nil)))))) (pss_one (ps_ret pe_bl)) pss_nil)
    (pss_cons (ps_set (i := 14) sc.nd rfl (Or.inl rfl) (pe_ix (ix_list_k (K := K)) (pe_lst (pa_cons (pe_callTy (cr_list_k (K := K)) (by rfl) T.b_list (by decide +kernel) (pa_cons (pv 9) pa_nil)) (pa_cons (pe_callTy (cr_tuple_k (K := K)) (by rfl) T.b_tuple (by decide +kernel) (pa_cons (pv 9) pa_nil)) pa_nil))) (pe_op op_mod (pe_op op_add (pe_ix (ix_list_k (K := K)) (pv 8) pe_int (fun _ _ => rfl)) (pv 12)) pe_int) (fun _ _ => rfl)))
    (pss_cons (ps_setLc (i := 15) (own := [("k", 16)]) (g := gName 16) (by rfl) sc.nd rfl rfl (sw_true rfl rfl rfl (by decide +kernel)) (pi_range1 (by rfl) T.b_range (pa_cons (pv 2) pa_nil)) (blkOk_by (N := ["script", "head", "wide", "inks", "low", "free", "place", "high", "row", "cells", "first", "layers", "turn", "pair", "picked", "marked", "k"]) (sc := defScope s_law) (own := [("k", 16)]) (by decide +kernel)) (fun _ _ _ _ _ => (pg_name (i := 16) sc.nd rfl (Or.inl rfl))) (fun _ _ _ _ _ => (pts_one (pt_cmpR op_ne (pe_ix ix_str (pe_ix (ix_list_k (K := K)) (pv 13) pe_int (fun _ _ => rfl)) (pv 16) (fun _ _ => rfl)) (pe_strS [45] (by rfl)) (nomark _)))) (fun _ _ _ _ _ => (pv 16)))
    (pss_cons (ps_if (PW.pt (pw_or (pt_not (pt_val (pe_callH C__law_cells (hr.mono (by decide)) (pa_cons (pe_ix (ix_list_k (K := K)) (pv 13) pe_int (fun _ _ => rfl)) (pa_cons (pe_cmpR op_eq (pv 12) pe_int (nomark _)) pa_nil))))) (pw_or1 (pt_not (pt_val (pe_callH C__law_chosen (hr.mono (by decide)) (pa_cons (pe_ix (ix_list_k (K := K)) (pv 13) pe_int (fun _ _ => rfl)) (pa_cons (pv 14) (pa_cons (pe_cmpR op_eq (pv 12) pe_int (nomark _)) pa_nil))))))))) (pss_one (ps_ret pe_bl)) pss_nil)
    (pss_cons (ps_if (PW.pt (pw_or (pt_cmpR (op_neD_k (K := K) hr.units) (pe_callTy (cr_list_k (K := K)) (by rfl) T.b_list (by decide +kernel) (pa_cons (pv 14) pa_nil)) (pv 9) (nomark _)) (pw_or1 (pt_not (pt_val (pe_callH C__law_chosen (hr.mono (by decide)) (pa_cons (pe_ix (ix_list_k (K := K)) (pv 13) pe_int (fun _ _ => rfl)) (pa_cons (pv 15) (pa_cons (pe_cmpR op_eq (pv 12) pe_int (nomark _)) pa_nil))))))))) (pss_one (ps_ret pe_bl)) pss_nil)
    (pss_one (ps_if (pt_not (pt_val (pe_callH C__law_alone (hr.mono (by decide)) (pa_cons (pe_ix (ix_list_k (K := K)) (pv 13) pe_int (fun _ _ => rfl)) (pa_cons (pe_ix (ix_list_k (K := K)) (pe_lst (pa_cons (pv 2) (pa_cons (pe_op op_add (pe_ix (ix_list_k (K := K)) (pv 1) pe_int (fun _ _ => rfl)) pe_int) pa_nil))) (pv 12) (fun _ _ => rfl)) (pa_cons (pe_cmpR op_eq (pv 12) pe_int (nomark _)) pa_nil)))))) (pss_one (ps_ret pe_bl)) pss_nil))))))))))
    (pss_one (ps_ret (pe_and (pe_callH C__law_presses_right (hr.mono (by decide)) (pa_cons (pv 10) (pa_cons (pv 11) pa_nil))) (pe_one (pe_callH C__law_sorted_right (hr.mono (by decide)) (pa_cons (pv 11) pa_nil))))))))))))))))))), ?_⟩
  -- head
  refine' a_asg (K := K) (er_call (K := K) (ns, 0, szH) (era_cons (er_var rfl hs) (era_cons er_c (era_cons (Er.n2l (er_lst (vs := vis szH) ?g1 (by decide))) era_nil))) rfl ⟨hp, Nat.zero_le _, szH_few, szH_bd⟩) ?g2
  case g1 => repeat (first | exact era_nil | refine era_cons er_c ?_)
  intro v H1 e1 hv1
  obtain ⟨ph, rfl, hph⟩ := hv1
  replace hph : H1 ph = some (.lst (vis (drawM ns 0 szH))) := hph
  have lH : (drawM ns 0 szH).length = 14 := by rw [drawM_len]; rfl
  have b0 : 0 ≤ (drawM ns 0 szH).getD 0 0 ∧ (drawM ns 0 szH).getD 0 0 < 40 := drawM_bd posH (i := 0) (by decide)
  have b1 : 0 ≤ (drawM ns 0 szH).getD 1 0 ∧ (drawM ns 0 szH).getD 1 0 < 4 := drawM_bd posH (i := 1) (by decide)
  have b3 : 0 ≤ (drawM ns 0 szH).getD 3 0 ∧ (drawM ns 0 szH).getD 3 0 < 27 := drawM_bd posH (i := 3) (by decide)
  have b6 : 0 ≤ (drawM ns 0 szH).getD 6 0 ∧ (drawM ns 0 szH).getD 6 0 < 8 := drawM_bd posH (i := 6) (by decide)
  have b11 : 0 ≤ (drawM ns 0 szH).getD 11 0 ∧ (drawM ns 0 szH).getD 11 0 < 30 := drawM_bd posH (i := 11) (by decide)
  have b12 : 0 ≤ (drawM ns 0 szH).getD 12 0 ∧ (drawM ns 0 szH).getD 12 0 < 44 := drawM_bd posH (i := 12) (by decide)
  have b13 : 0 ≤ (drawM ns 0 szH).getD 13 0 ∧ (drawM ns 0 szH).getD 13 0 < 2 := drawM_bd posH (i := 13) (by decide)
  generalize drawM ns 0 szH = hd at hph lH b0 b1 b3 b6 b11 b12 b13
  have hh1 : Is K H1 (.n (vis hd)) (.ref ph) := ⟨ph, rfl, hph⟩
  have hs1 := hs.mono e1
  have at_hd : ∀ {te : TE} {σ : L2.St} {H : Hp} {j : Nat}, Er K te σ H (.n (vis hd)) → j < 14 → Er K (tOp (rIxL K) te (tC (.int (j : Int)))) σ H (.i (hd.getD j 0)) := fun {te σ H j} q hj => Er.to (er_op q er_c (ro_ixIN (by omega) (by omega))) (by rw [Int.toNat_natCast])
  -- wide
  obtain ⟨wd, hwd⟩ : ∃ n : Nat, sizeM (hd.getD 0 0) = (n : Int) := ⟨(sizeM (hd.getD 0 0)).toNat, by have := sizeM_bd b0.1 b0.2; omega⟩
  have wdb : 1 ≤ wd ∧ wd ≤ 30 := by have := sizeM_bd b0.1 b0.2; omega
  refine' a_setv (K := K) (x := .int (wd : Int)) (Er.to (er_call (K := K) (hd.getD 0 0) (era_cons (at_hd (j := 0) (er_var rfl hh1) (by decide)) era_nil) rfl b0) (congrArg Dd.i hwd)) ?g3
  intro H2 e2
  have hh2 := hh1.mono e2
  have hs2 := hs1.mono e2
  -- inks
  have dr1 : ∀ j, (hd.drop 1).getD j 0 = hd.getD (j + 1) 0 := fun j => by
    rw [List.getD_eq_getElem?_getD, List.getD_eq_getElem?_getD, List.getElem?_drop, Nat.add_comm]
  have iok : InkOk (hd.drop 1) := by
    refine ⟨by rw [List.length_drop]; omega, by rw [List.length_drop]; omega, ?_, ?_⟩
    · rw [dr1]
      exact b1
    · rw [dr1]
      exact b3
  have ikk := inksM_ok iok
  refine' a_setv (K := K) (x := .str (S (inksM (hd.drop 1)))) (er_call (K := K) (hd.drop 1) (era_cons (Er.n2l (er_slvFrom (n := 1) (Er.n2l (er_var rfl hh2)) er_c)) era_nil) rfl iok) ?g4
  intro H3 e3
  generalize inksM (hd.drop 1) = ik at ikk
  have hh3 := hh2.mono e3
  have hs3 := hs2.mono e3
  have d112 : ∀ {σ : L2.St} {H : Hp} {j : Nat} {ta : TE}, Er K ta σ H (.l (vis ns)) → j ≤ 1000 → Er K (tCall (sp__law_draw K) [] E0 (tCons ta (tCons (tC (.int (j : Int))) (tCons (tOp rRep (tLst (tCons (tC (.int 112)) tNil)) (tC (.int 30))) tNil)))) σ H (.n (vis (drawM ns j sz112))) := fun {σ H j ta} q hj => er_call (K := K) (ns, j, sz112) (era_cons q (era_cons er_c (era_cons (Er.n2l (er_same (k := 30) er_c (by decide))) era_nil))) rfl ⟨hp, hj, sz112_few, sz112_bd⟩
  have l112 : ∀ j, (drawM ns j sz112).length = 30 := fun j => by rw [drawM_len]; rfl
  -- low
  refine' a_setv (K := K) (x := .str (S (layerM ik (([0, 1, 1, 2, 2, 3, 2, 4] : List Int).getD (hd.getD 6 0).toNat 0) (drawM ns 1 sz112) wd))) (er_call (K := K) (ik, ([0, 1, 1, 2, 2, 3, 2, 4] : List Int).getD (hd.getD 6 0).toNat 0, drawM ns 1 sz112, wd) (ds := [.s (S ik), .i (([0, 1, 1, 2, 2, 3, 2, 4] : List Int).getD (hd.getD 6 0).toNat 0), .l (vis (drawM ns 1 sz112)), .i (wd : Int)]) (era_cons (er_v rfl) (era_cons (er_op (er_lst (vs := vis [0, 1, 1, 2, 2, 3, 2, 4]) ?g5 (by decide)) (at_hd (j := 6) (er_var rfl hh3) (by decide)) (ro_ixIN b6.1 b6.2)) (era_cons (Er.n2l (d112 (j := 1) (er_var rfl hs3) (by decide))) (era_cons (er_v rfl) era_nil)))) rfl ⟨ikk.1, ikk.2.1, by rw [l112]; omega, by rw [l112]; exact wdb.2, wdb.2⟩) ?g6
  case g5 => repeat (first | exact era_nil | refine era_cons er_c ?_)
  intro H4 e4
  have glow := layerM_ok (share := ([0, 1, 1, 2, 2, 3, 2, 4] : List Int).getD (hd.getD 6 0).toNat 0) (sp := drawM ns 1 sz112) (wide := wd) ikk.1 ikk.2.2
  generalize layerM ik (([0, 1, 1, 2, 2, 3, 2, 4] : List Int).getD (hd.getD 6 0).toNat 0) (drawM ns 1 sz112) wd = low at glow
  have hh4 := hh3.mono e4
  have hs4 := hs3.mono e4
  -- free
  refine' a_setv (K := K) (x := .str (S (layerM ik (hd.getD 7 0) (drawM ns 2 sz112) wd))) (er_call (K := K) (ik, hd.getD 7 0, drawM ns 2 sz112, wd) (ds := [.s (S ik), .i (hd.getD 7 0), .l (vis (drawM ns 2 sz112)), .i (wd : Int)]) (era_cons (er_v rfl) (era_cons (at_hd (j := 7) (er_var rfl hh4) (by decide)) (era_cons (Er.n2l (d112 (j := 2) (er_var rfl hs4) (by decide))) (era_cons (er_v rfl) era_nil)))) rfl ⟨ikk.1, ikk.2.1, by rw [l112]; omega, by rw [l112]; exact wdb.2, wdb.2⟩) ?g7
  intro H5 e5
  have gfree := layerM_ok (share := hd.getD 7 0) (sp := drawM ns 2 sz112) (wide := wd) ikk.1 ikk.2.2
  generalize layerM ik (hd.getD 7 0) (drawM ns 2 sz112) wd = free at gfree
  have hh5 := hh4.mono e5
  have hs5 := hs4.mono e5
  -- place
  have hpl0 : 0 ≤ hd.getD 9 0 % (wd : Int) := Int.emod_nonneg _ (by omega)
  obtain ⟨place, hpl⟩ : ∃ n : Nat, hd.getD 9 0 % (wd : Int) = (n : Int) := ⟨(hd.getD 9 0 % (wd : Int)).toNat, by omega⟩
  refine' a_setv (K := K) (x := .int (place : Int)) (Er.to (er_op (er_cb (era_cons (at_hd (j := 9) (er_var rfl hh5) (by decide)) era_nil) rc_int) (er_v rfl) (ro_mod (by omega))) (congrArg Dd.i hpl)) ?g8
  intro H6 e6
  have hh6 := hh5.mono e6
  have hs6 := hs5.mono e6
  -- high
  have lfree := gfree.1
  have llow := glow.1
  have l2 : (drawM ns 3 sz2).length = 30 := by rw [drawM_len]; rfl
  refine' a_setv (K := K) (x := .str (S (secM low free (hd.getD 8 0) place (hd.getD 10 0) (drawM ns 3 sz2) low.length))) (er_call (K := K) (low, free, hd.getD 8 0, place, hd.getD 10 0, drawM ns 3 sz2) (ds := [.s (S low), .s (S free), .i (hd.getD 8 0), .i (place : Int), .i (hd.getD 10 0), .l (vis (drawM ns 3 sz2))]) (era_cons (er_v rfl) (era_cons (er_v rfl) (era_cons (at_hd (j := 8) (er_var rfl hh6) (by decide)) (era_cons (er_v rfl) (era_cons (at_hd (j := 10) (er_var rfl hh6) (by decide)) (era_cons (Er.n2l (er_call (K := K) (ns, 3, sz2) (era_cons (er_var rfl hs6) (era_cons er_c (era_cons (Er.n2l (er_same (k := 30) er_c (by decide))) era_nil))) rfl ⟨hp, by show (3 : Nat) ≤ 1000; decide, sz2_few, sz2_bd⟩)) era_nil)))))) rfl ⟨by show low.length ≤ 30; omega, by show low.length ≤ free.length; omega, by show free.length ≤ 30; omega, by show low.length ≤ (drawM ns 3 sz2).length; omega, glow.2⟩) ?g9
  intro H7 e7
  have ghigh := secM_ok (mode := hd.getD 8 0) (place := place) (step := hd.getD 10 0) (turns := drawM ns 3 sz2) glow gfree
  generalize secM low free (hd.getD 8 0) place (hd.getD 10 0) (drawM ns 3 sz2) low.length = high at ghigh
  have hh7 := hh6.mono e7
  have hs7 := hs6.mono e7
  -- row
  have lR : (drawM ns 4 (szR wd)).length = 39 := by rw [drawM_len]; rfl
  have r0 : 0 ≤ (drawM ns 4 (szR wd)).getD 0 0 ∧ (drawM ns 4 (szR wd)).getD 0 0 < 36 := drawM_bd (fun s h => (szR_bd wdb s h).1) (i := 0) (show 0 < (szR wd).length by show 0 < 39; decide)
  refine' a_asg (K := K) (er_call (K := K) (ns, 4, szR wd) (ds := [.l (vis ns), .i 4, .l (vis (szR wd))]) (era_cons (er_var rfl hs7) (era_cons er_c (era_cons (Er.n2l (Er.to (er_op (er_lst (vs := vis [36, 2, 6]) ?g10 (by decide)) (er_same (n := (wd : Int)) (k := 36) (er_v rfl) (by decide)) (ro_cat (by simp))) ?g11)) era_nil))) rfl ⟨hp, by show (4 : Nat) ≤ 1000; decide, szR_few wd, szR_bd wdb⟩) ?g12
  case g10 => repeat (first | exact era_nil | refine era_cons er_c ?_)
  case g11 =>
    show Dd.n _ = Dd.n (vis (szR wd))
    unfold szR
    rw [vis, vis, vis, List.map_append]
  intro v8 H8 e8 hv8
  obtain ⟨pr, rfl, hpr⟩ := hv8
  replace hpr : H8 pr = some (.lst (vis (drawM ns 4 (szR wd)))) := hpr
  generalize drawM ns 4 (szR wd) = row at lR r0 hpr
  have hr8 : Is K H8 (.n (vis row)) (.ref pr) := ⟨pr, rfl, hpr⟩
  have hh8 := hh7.mono e8
  have hs8 := hs7.mono e8
  have at_row : ∀ {te : TE} {σ : L2.St} {H : Hp} {j : Nat}, Er K te σ H (.n (vis row)) → j < 39 → Er K (tOp (rIxL K) te (tC (.int (j : Int)))) σ H (.i (row.getD j 0)) := fun {te σ H j} q hj => Er.to (er_op q er_c (ro_ixIN (by omega) (by omega))) (by rw [Int.toNat_natCast])
  -- cells
  refine' a_asg (K := K) (er_slvMid (n := 3) (m := 3 + (row.getD 0 0).toNat) (Er.n2l (er_var rfl hr8)) er_c (Er.to (er_op er_c (at_row (j := 0) (er_var rfl hr8) (by decide)) ro_I0) ?g13) (by omega) (by omega)) ?g14
  case g13 =>
    show Dd.i (3 + row.getD 0 0) = Dd.i ((3 + (row.getD 0 0).toNat : Nat) : Int)
    congr 2
    omega
  intro v9 H9 e9 hv9
  have hr9 := hr8.mono e9
  have hh9 := hh8.mono e9
  have hs9 := hs8.mono e9
  generalize (row.drop 3).take (3 + (row.getD 0 0).toNat - 3) = cs0 at hv9
  obtain ⟨pc, rfl, hpc⟩ := hv9
  refine' a_ifSetD (K := K) (e := .n (vis cs0)) (d := .n (vis ((List.range wd).map fun k : Nat => (wd : Int) - 1 - (k : Int)))) (b := decide (row.getD 2 0 = 0)) (et1 (er_op (at_row (j := 2) (er_var rfl hr9) (by decide)) er_c ro_eqI)) ?g15 rfl ⟨pc, rfl, hpc⟩ ?g16
  case g15 =>
    intro _
    refine Er.to (er_lcR' (K := K) (n := wd) (vs := [16]) (fun k => .int ((wd : Int) - 1 - (k : Int))) ?g17 (by omega) (fun _ => rfl) ?g18) ?g19
    case g17 => walk_at "era"
    case g18 =>
      intro i H7 e7 hi
      walk_at "er"
    case g19 =>
      rw [vis, List.map_map]
      rfl
  intro vc H10 e10 hvc
  have hcs : ∃ cs : List Int, Is K H10 (.n (vis cs)) vc := by
    by_cases hb : decide (row.getD 2 0 = 0) = true
    · rw [if_pos hb] at hvc
      exact ⟨_, hvc⟩
    · rw [if_neg hb] at hvc
      exact ⟨_, hvc⟩
  obtain ⟨cs, hcs⟩ := hcs
  clear hvc
  have hr10 := hr9.mono e10
  have hh10 := hh9.mono e10
  have hs10 := hs9.mono e10
  -- first
  refine' a_setv (K := K) (x := .str (S (layerM ik (([0, 2] : List Int).getD (hd.getD 13 0).toNat 0) (drawM ns 5 sz112) wd))) (er_call (K := K) (ik, ([0, 2] : List Int).getD (hd.getD 13 0).toNat 0, drawM ns 5 sz112, wd) (ds := [.s (S ik), .i (([0, 2] : List Int).getD (hd.getD 13 0).toNat 0), .l (vis (drawM ns 5 sz112)), .i (wd : Int)]) (era_cons (er_v rfl) (era_cons (er_op (er_lst (vs := vis [0, 2]) ?g20 (by decide)) (at_hd (j := 13) (er_var rfl hh10) (by decide)) (ro_ixIN b13.1 b13.2)) (era_cons (Er.n2l (d112 (j := 5) (er_var rfl hs10) (by decide))) (era_cons (er_v rfl) era_nil)))) rfl ⟨ikk.1, ikk.2.1, by rw [l112]; omega, by rw [l112]; exact wdb.2, wdb.2⟩) ?g21
  case g20 => repeat (first | exact era_nil | refine era_cons er_c ?_)
  intro H11 e11
  have gfirst := layerM_ok (share := ([0, 2] : List Int).getD (hd.getD 13 0).toNat 0) (sp := drawM ns 5 sz112) (wide := wd) ikk.1 ikk.2.2
  generalize layerM ik (([0, 2] : List Int).getD (hd.getD 13 0).toNat 0) (drawM ns 5 sz112) wd = first at gfirst
  have hcs11 := hcs.mono e11
  have hr11 := hr10.mono e11
  have hh11 := hh10.mono e11
  have hs11 := hs10.mono e11
  -- layers
  have mI : 0 ≤ (if hd.getD 12 0 - 39 > 0 then hd.getD 12 0 - 39 else 0) ∧ (if hd.getD 12 0 - 39 > 0 then hd.getD 12 0 - 39 else 0) < 5 := by split <;> omega
  obtain ⟨many, hmany, m1, m2⟩ : ∃ m : Nat, ([hd.getD 12 0 + 1, 2, 3, 4, 5] : List Int).getD (if hd.getD 12 0 - 39 > 0 then hd.getD 12 0 - 39 else 0).toNat 0 = (m : Int) ∧ 1 ≤ m ∧ m ≤ 100 := by
    have hj : (if hd.getD 12 0 - 39 > 0 then hd.getD 12 0 - 39 else 0).toNat < 5 := by omega
    generalize (if hd.getD 12 0 - 39 > 0 then hd.getD 12 0 - 39 else 0).toNat = j at hj
    generalize hd.getD 12 0 = x at b12
    rcases j with _ | _ | _ | _ | _ | j
    · exact ⟨(x + 1).toNat, by show x + 1 = _; omega, by omega, by omega⟩
    · exact ⟨2, rfl, by decide, by decide⟩
    · exact ⟨3, rfl, by decide, by decide⟩
    · exact ⟨4, rfl, by decide, by decide⟩
    · exact ⟨5, rfl, by decide, by decide⟩
    · omega
  refine' a_asg (K := K) (er_call (K := K) (ns, 6, ik, wd, many) (ds := [.l (vis ns), .i 6, .s (S ik), .i (wd : Int), .i (many : Int)]) (era_cons (er_var rfl hs11) (era_cons er_c (era_cons (er_v rfl) (era_cons (er_v rfl) (era_cons (Er.to (er_op (er_lst (vs := vis [hd.getD 12 0 + 1, 2, 3, 4, 5]) (era_cons (er_op (at_hd (j := 12) (er_var rfl hh11) (by decide)) er_c ro_I0) ?g22) (by simp)) (er_cb (era_cons er_c (era_cons (er_op (at_hd (j := 12) (er_var rfl hh11) (by decide)) er_c ro_I0) era_nil)) rc_max2) (ro_ixIN mI.1 mI.2)) (congrArg Dd.i hmany)) era_nil))))) rfl ⟨hp, by show (6 : Nat) ≤ 100; decide, ikk, wdb, m2⟩) ?g23
  case g22 => repeat (first | exact era_nil | refine era_cons er_c ?_)
  intro v12 H12 e12 hv12
  obtain ⟨pl, rfl, hpl12⟩ := hv12
  have gl := layersM_ok (ns := ns) (at_ := 6) ikk.1 ikk.2.2 wdb.1 many
  have ll := layersM_len (ns := ns) (at_ := 6) (ik := ik) (wide := wd) many
  replace hpl12 : H12 pl = some (.lst (vsl (layersM ns 6 ik wd many))) := hpl12
  generalize layersM ns 6 ik wd many = L at gl ll hpl12
  have hl12 : Is K H12 (.n (vsl L)) (.ref pl) := ⟨pl, rfl, hpl12⟩
  have hcs12 := hcs11.mono e12
  have hr12 := hr11.mono e12
  have hh12 := hh11.mono e12
  have E12 : Ex H H12 := e1.trans (e2.trans (e3.trans (e4.trans (e5.trans (e6.trans (e7.trans (e8.trans (e9.trans (e10.trans (e11.trans e12))))))))))
  clear hs1 hs2 hs3 hs4 hs5 hs6 hs7 hs8 hs9 hs10 hs11 hh1 hh2 hh3 hh4 hh5 hh6 hh7 hh8 hh9 hh10 hh11 hr8 hr9 hr10 hr11 hcs hcs11 d112 at_row iok ikk
  have lhigh := ghigh.1
  have lfirst := gfirst.1
  refine b_forR1 (K := K) (n := 2) (era_cons er_c era_nil) (by omega) (fun i σ' H' => ∃ t y1 y2 y3, σ' = [some (.ref p), some (.ref ph), some (.int (wd : Int)), some (.str (S ik)), some (.str (S low)), some (.str (S free)), some (.int (place : Int)), some (.str (S high)), some (.ref pr), some vc, some (.str (S first)), some (.ref pl), t, y1, y2, y3, none] ∧ Ex H12 H') (fun H5 e5 => ⟨none, none, none, none, rfl, e5⟩) ?k1 ?k2
  case k2 =>
    rintro σ' H' ⟨t, y1, y2, y3, rfl, e⟩
    have hl' := hl12.mono e
    have lay : Lay wd L := ⟨by omega, by omega, gl, wdb.2⟩
    exact a_rete (K := K) (er_andV (er_call (K := K) (first, L) (era_cons (er_v rfl) (era_cons (Er.n2l (er_var rfl hl')) era_nil)) rfl (by show Lay first.length L; rw [lfirst]; exact lay)) fun _ => er_call (K := K) (L, wd) (era_cons (Er.n2l (er_var rfl hl')) era_nil) rfl lay) rfl (E12.trans e) hk
  case k1 =>
    rintro i σ' H' hi ⟨t, y1, y2, y3, rfl, e⟩
    refine a_forD (K := K) (dss := [.n [.str (S low), .str (S high)], .n [.str (S high), .str (S low)], .n [.str (S low), .str (S low)], .n [.str (S high), .str (S high)]]) ?k3 (by simp) (fun j σ' H' => ∃ y1 y2 y3, σ' = [some (.ref p), some (.ref ph), some (.int (wd : Int)), some (.str (S ik)), some (.str (S low)), some (.str (S free)), some (.int (place : Int)), some (.str (S high)), some (.ref pr), some vc, some (.str (S first)), some (.ref pl), some (.int (i : Int)), y1, y2, y3, none] ∧ Ex H12 H') (fun H5 e5 => ⟨y1, y2, y3, rfl, e.trans e5⟩) ?k4 ?k5
    case k3 =>
      have two : ∀ {ta tb : TE} {σ : L2.St} {H : Hp} {x y : V}, Er K ta σ H (.v x) → Er K tb σ H (.v y) → Er K (tLst (tCons ta (tCons tb tNil))) σ H (.n [x, y]) := fun {ta tb σ H x y} q r => er_lst (vs := [x, y]) (era_cons q (era_cons r era_nil)) (by simp)
      exact era_cons (two (er_v rfl) (er_v rfl)) (era_cons (two (er_v rfl) (er_v rfl)) (era_cons (two (er_v rfl) (er_v rfl)) (era_cons (two (er_v rfl) (er_v rfl)) era_nil)))
    case k5 =>
      rintro σ' H' ⟨y1, y2, y3, rfl, e⟩
      exact ⟨_, _, _, _, rfl, e⟩
    case k4 =>
      rintro H13 e13 j d v σ' H' hd1 hv ⟨y1, y2, y3, rfl, e⟩ e14
      obtain ⟨A, B, rfl, lA, lB⟩ : ∃ A B : List Nat, d = .n [.str (S A), .str (S B)] ∧ A.length = wd ∧ B.length = wd := by
        rcases j with _ | _ | _ | _ | j
        · exact ⟨low, high, (Option.some.inj hd1).symm, llow, lhigh⟩
        · exact ⟨high, low, (Option.some.inj hd1).symm, lhigh, llow⟩
        · exact ⟨low, low, (Option.some.inj hd1).symm, llow, llow⟩
        · exact ⟨high, high, (Option.some.inj hd1).symm, lhigh, lhigh⟩
        · simp at hd1
      have hvp := hv H' e14
      have lAB : A.length = B.length := by omega
      have fA : A.length ≤ 100 := by omega
      have is1 : ∀ {σ : L2.St} {H : Hp}, σ[12]? = some (some (.int (i : Int))) → Er K (tOp rEq (tVar 12) (tC (.int 1))) σ H (.b (decide ((i : Int) = 1))) := fun {σ H} q => er_op (er_v q) er_c ro_eqI
      have is0 : ∀ {σ : L2.St} {H : Hp}, σ[12]? = some (some (.int (i : Int))) → Er K (tOp rEq (tVar 12) (tC (.int 0))) σ H (.b (decide ((i : Int) = 0))) := fun {σ H} q => er_op (er_v q) er_c ro_eqI
      refine' a_when (K := K) (b := !true) ?p1 ?p2 ?p3
      case p1 => exact et_nt (et2 (er_call (K := K) (A, B, decide ((i : Int) = 1)) (era_cons (er_pos (n := 0) (er_var rfl hvp) rfl) (era_cons (er_pos (n := 1) (er_var rfl hvp) rfl) (era_cons (is1 rfl) era_nil))) rfl ⟨lAB, fA⟩))
      case p2 =>
        intro hb
        cases hb
      case p3 =>
        intro _ H15 e15
        have hv15 := hv H15 (e14.trans e15)
        have hcs15 := hcs12.mono (e.trans e15)
        have hr15 := hr12.mono (e.trans e15)
        have m2 : (row.getD 1 0 + (i : Int)) % 2 = 0 ∨ (row.getD 1 0 + (i : Int)) % 2 = 1 := by omega
        refine' a_asg (K := K) (er_pickD (d1 := .l (vis cs)) (d2 := .u (vis cs)) (i := (row.getD 1 0 + (i : Int)) % 2) (Er.n2l (er_cb (era_cons (Er.n2l (er_var rfl hcs15)) era_nil) rc_listL)) (er_cb (era_cons (er_var rfl hcs15) era_nil) rc_tupN) (er_op (er_op (Er.to (er_op (er_var rfl hr15) er_c (ro_ixIN (by decide) (by omega))) rfl) (er_v rfl) ro_I0) er_c (ro_mod (by decide))) m2) ?p4
        intro w16 H16 e16 hw16
        obtain ⟨dk, hdk, hw⟩ : ∃ dk, Chosen dk cs ∧ Is K H16 dk w16 := ⟨_, by rcases m2 with m2 | m2 <;> rw [m2] <;> first | exact .inl rfl | exact .inr rfl, hw16⟩
        have hv16 := hv H16 ((e14.trans e15).trans e16)
        refine' a_asg (K := K) (er_lcR (K := K) (n := wd) (vs := [16]) (fun k => !decide (B.getD k 0 = 45)) (fun k => .int (k : Int)) (era_cons (er_v rfl) era_nil) (by omega) (fun _ => rfl) ?p5 ?p6) ?p7
        case p5 =>
          intro k H17 e17 hk1
          refine' Et.to (K := K) (et1 (er_op (er_op (d1 := .s (S B)) (er_pos (n := 1) (er_var rfl (hv H17 (((e14.trans e15).trans e16).trans e17))) rfl) (er_v rfl) (ro_ixC (by omega) (by omega) (by omega))) er_c ro_neC)) ?p8
          rw [Int.toNat_natCast]
          simp
        case p6 =>
          intro k H17 e17 hk1 _
          exact er_v rfl
        intro w17 H17 e17 hw17
        have hmk : Is K H17 (.n (vis (((List.range wd).filter fun k => !decide (B.getD k 0 = 45)).map fun k : Nat => (k : Int)))) w17 := by
          rw [vis, List.map_map]
          exact hw17
        generalize (((List.range wd).filter fun k => !decide (B.getD k 0 = 45)).map fun k : Nat => (k : Int)) = mk at hmk
        have hv17 := hv H17 (((e14.trans e15).trans e16).trans e17)
        have hw17' := hw.mono e17
        refine' a_when (K := K) (b := (!true || !true)) ?q1 ?q2 ?q3
        case q1 => exact et_orr (et_nt (et2 (er_call (K := K) (A, decide ((i : Int) = 1)) (era_cons (er_pos (n := 0) (er_var rfl hv17) rfl) (era_cons (is1 rfl) era_nil)) rfl fA))) fun _ => et_nt (et2 (er_call (K := K) (A, dk, cs, decide ((i : Int) = 1)) (era_cons (er_pos (n := 0) (er_var rfl hv17) rfl) (era_cons (er_var rfl hw17') (era_cons (is1 rfl) era_nil))) rfl ⟨fA, hdk⟩))
        case q2 =>
          intro hb
          cases hb
        case q3 =>
          intro _ H18 e18
          have hv18 := hv H18 ((((e14.trans e15).trans e16).trans e17).trans e18)
          have hw18 := hw17'.mono e18
          have hmk18 := hmk.mono e18
          have hcs18 := ((hcs15.mono e16).mono e17).mono e18
          refine' a_when (K := K) (b := (!decide (cs = cs) || !true)) ?q4 ?q5 ?q6
          case q4 => exact et_orr (et1 (er_op (Er.n2l (er_listC hdk (er_var rfl hw18))) (Er.n2l (er_var rfl hcs18)) ro_neL)) fun _ => et_nt (et2 (er_call (K := K) (A, .l (vis mk), mk, decide ((i : Int) = 0)) (era_cons (er_pos (n := 0) (er_var rfl hv18) rfl) (era_cons (Er.n2l (er_var rfl hmk18)) (era_cons (is0 rfl) era_nil))) rfl ⟨fA, .inl rfl⟩))
          case q5 =>
            intro hb
            simp at hb
          case q6 =>
            intro _ H19 e19
            have hv19 := hv H19 (((((e14.trans e15).trans e16).trans e17).trans e18).trans e19)
            have hh19 := hh12.mono (((((e.trans e15).trans e16).trans e17).trans e18).trans e19)
            obtain ⟨wt, hwt, wt2⟩ : ∃ wt : Nat, ([(wd : Int), hd.getD 11 0 + 1] : List Int).getD (i : Int).toNat 0 = (wt : Int) ∧ wt ≤ 1000 := by
              rcases i with _ | _ | i
              · exact ⟨wd, rfl, by omega⟩
              · exact ⟨(hd.getD 11 0 + 1).toNat, by show hd.getD 11 0 + 1 = _; omega, by omega⟩
              · omega
            refine' a_when1 (K := K) (b := !true) ?q7 ?q8 ?q9
            case q7 => exact et_nt (et2 (er_call (K := K) (A, wt, decide ((i : Int) = 1)) (ds := [.s (S A), .i (wt : Int), .b (decide ((i : Int) = 1))]) (era_cons (er_pos (n := 0) (er_var rfl hv19) rfl) (era_cons (Er.to (er_op (er_lst (vs := vis [(wd : Int), hd.getD 11 0 + 1]) (era_cons (er_v rfl) (era_cons (er_op (at_hd (j := 11) (er_var rfl hh19) (by decide)) er_c ro_I0) era_nil)) (by simp)) (er_v rfl) (ro_ixIN (by omega) (by show (i : Int) < 2; omega))) (congrArg Dd.i hwt)) (era_cons (is1 rfl) era_nil))) rfl ⟨fA, wt2⟩))
            case q8 =>
              intro hb
              cases hb
            case q9 =>
              intro _ H20 e20
              have E20 : Ex H' H20 := e15.trans (e16.trans (e17.trans (e18.trans (e19.trans e20))))
              exact ⟨⟨_, _, _, rfl, e.trans E20⟩, e14.trans E20⟩
end
end Mi

set_option maxHeartbeats 4000000
namespace Mi
open PySem PySem.Spec PyProof.Rows L2 Evl
theorem at_mk {K : PySem.W.Frag} {h : Heap} {mg : Str → Option Value} {x : Str} {st : Stmt} {ps : List Str} {f : Addr} {od an : Option Addr} {sl : Array (Option Value)} {oc kV dc pm cd ct : Value} (X : K.In h) (G : h.Ns mainGlobals mg)
    (a : PySem.W.nsIn K mainGlobals x = some (some (.ref f))) (l : K.lookup f = some ⟨oc, od, .func (PySem.W.fnOf x x (defArgs st) (defBody st) (defScope st) .none kV dc pm an cd ct), sl⟩) (c : PySem.W.codeIn K cd x = true) (k : PySem.W.keepIn K (.ref f) = true)
    (b0 : ∀ (kV dc pm : Value) (an : Option Addr) (cd ct : Value) (us : List Value), us.length = ps.length → bindArgs (PySem.W.fnOf x x (defArgs st) (defBody st) (defScope st) .none kV dc pm an cd ct) ⟨us, []⟩ = pure (ps.zip us))
    (b1 : ∀ (kV dc pm : Value) (an : Option Addr) (cd ct : Value), ps.length = 1 → ∀ w1 : Value, bindArgs (PySem.W.fnOf x x (defArgs st) (defBody st) (defScope st) .none kV dc pm an cd ct) ⟨[], ps.zip [w1]⟩ = pure (ps.zip [w1]))
    (b2 : ∀ (kV dc pm : Value) (an : Option Addr) (cd ct : Value), ∀ p q, ps = [p, q] → ∀ w1 w2 : Value, bindArgs (PySem.W.fnOf x x (defArgs st) (defBody st) (defScope st) .none kV dc pm an cd ct) ⟨[], [q, p].zip [w1, w2]⟩ = pure ([p, q].zip [w2, w1])) : At K mg x st ps := by
  have F := fun_mk (st := st) l c k
  exact ⟨_, _, PySem.W.mg_of X G a, F, Binds.all (b0 _ _ _ _ _ _), fun e _ w1 => .of_eq (b1 _ _ _ _ _ _ e w1), fun p q e _ w1 w2 => .of_eq (b2 _ _ _ _ _ _ p q e w1 w2)⟩
theorem at_cells_of {K : PySem.W.Frag} {h : Heap} {mg : Str → Option Value} {f : Addr} {od an : Option Addr} {sl : Array (Option Value)} {oc kV dc pm cd ct : Value} (X : K.In h) (G : h.Ns mainGlobals mg) (a : PySem.W.nsIn K mainGlobals "cells_of" = some (some (.ref f))) (l : K.lookup f = some ⟨oc, od, .func (PySem.W.fnOf "cells_of" "cells_of" (defArgs s_cells_of) (defBody s_cells_of) (defScope s_cells_of) .none kV dc pm an cd ct), sl⟩) (c : PySem.W.codeIn K cd "cells_of" = true) (k : PySem.W.keepIn K (.ref f) = true) : At K mg "cells_of" s_cells_of ["one"] :=
  at_mk X G a l c k (fun _ _ _ _ _ _ us hl => match us, hl with | [_], _ => rfl) (fun _ _ _ _ _ _ _ _ => rfl) (fun _ _ _ _ _ _ p q e => by cases e)
theorem at_agree {K : PySem.W.Frag} {h : Heap} {mg : Str → Option Value} {f : Addr} {od an : Option Addr} {sl : Array (Option Value)} {oc kV dc pm cd ct : Value} (X : K.In h) (G : h.Ns mainGlobals mg) (a : PySem.W.nsIn K mainGlobals "agree" = some (some (.ref f))) (l : K.lookup f = some ⟨oc, od, .func (PySem.W.fnOf "agree" "agree" (defArgs s_agree) (defBody s_agree) (defScope s_agree) .none kV dc pm an cd ct), sl⟩) (c : PySem.W.codeIn K cd "agree" = true) (k : PySem.W.keepIn K (.ref f) = true) : At K mg "agree" s_agree ["one", "two"] :=
  at_mk X G a l c k (fun _ _ _ _ _ _ us hl => match us, hl with | [_, _], _ => rfl) (fun _ _ _ _ _ _ e => absurd e (by decide)) (fun _ _ _ _ _ _ p q e w1 w2 => by cases e; rfl)
theorem at_within {K : PySem.W.Frag} {h : Heap} {mg : Str → Option Value} {f : Addr} {od an : Option Addr} {sl : Array (Option Value)} {oc kV dc pm cd ct : Value} (X : K.In h) (G : h.Ns mainGlobals mg) (a : PySem.W.nsIn K mainGlobals "within" = some (some (.ref f))) (l : K.lookup f = some ⟨oc, od, .func (PySem.W.fnOf "within" "within" (defArgs s_within) (defBody s_within) (defScope s_within) .none kV dc pm an cd ct), sl⟩) (c : PySem.W.codeIn K cd "within" = true) (k : PySem.W.keepIn K (.ref f) = true) : At K mg "within" s_within ["one", "two"] :=
  at_mk X G a l c k (fun _ _ _ _ _ _ us hl => match us, hl with | [_, _], _ => rfl) (fun _ _ _ _ _ _ e => absurd e (by decide)) (fun _ _ _ _ _ _ p q e w1 w2 => by cases e; rfl)
theorem at_joined {K : PySem.W.Frag} {h : Heap} {mg : Str → Option Value} {f : Addr} {od an : Option Addr} {sl : Array (Option Value)} {oc kV dc pm cd ct : Value} (X : K.In h) (G : h.Ns mainGlobals mg) (a : PySem.W.nsIn K mainGlobals "joined" = some (some (.ref f))) (l : K.lookup f = some ⟨oc, od, .func (PySem.W.fnOf "joined" "joined" (defArgs s_joined) (defBody s_joined) (defScope s_joined) .none kV dc pm an cd ct), sl⟩) (c : PySem.W.codeIn K cd "joined" = true) (k : PySem.W.keepIn K (.ref f) = true) : At K mg "joined" s_joined ["one", "two"] :=
  at_mk X G a l c k (fun _ _ _ _ _ _ us hl => match us, hl with | [_, _], _ => rfl) (fun _ _ _ _ _ _ e => absurd e (by decide)) (fun _ _ _ _ _ _ p q e w1 w2 => by cases e; rfl)
theorem at_freed {K : PySem.W.Frag} {h : Heap} {mg : Str → Option Value} {f : Addr} {od an : Option Addr} {sl : Array (Option Value)} {oc kV dc pm cd ct : Value} (X : K.In h) (G : h.Ns mainGlobals mg) (a : PySem.W.nsIn K mainGlobals "freed" = some (some (.ref f))) (l : K.lookup f = some ⟨oc, od, .func (PySem.W.fnOf "freed" "freed" (defArgs s_freed) (defBody s_freed) (defScope s_freed) .none kV dc pm an cd ct), sl⟩) (c : PySem.W.codeIn K cd "freed" = true) (k : PySem.W.keepIn K (.ref f) = true) : At K mg "freed" s_freed ["one", "chosen"] :=
  at_mk X G a l c k (fun _ _ _ _ _ _ us hl => match us, hl with | [_, _], _ => rfl) (fun _ _ _ _ _ _ e => absurd e (by decide)) (fun _ _ _ _ _ _ p q e w1 w2 => by cases e; rfl)
theorem at_kept_at {K : PySem.W.Frag} {h : Heap} {mg : Str → Option Value} {f : Addr} {od an : Option Addr} {sl : Array (Option Value)} {oc kV dc pm cd ct : Value} (X : K.In h) (G : h.Ns mainGlobals mg) (a : PySem.W.nsIn K mainGlobals "kept_at" = some (some (.ref f))) (l : K.lookup f = some ⟨oc, od, .func (PySem.W.fnOf "kept_at" "kept_at" (defArgs s_kept_at) (defBody s_kept_at) (defScope s_kept_at) .none kV dc pm an cd ct), sl⟩) (c : PySem.W.codeIn K cd "kept_at" = true) (k : PySem.W.keepIn K (.ref f) = true) : At K mg "kept_at" s_kept_at ["one", "chosen"] :=
  at_mk X G a l c k (fun _ _ _ _ _ _ us hl => match us, hl with | [_, _], _ => rfl) (fun _ _ _ _ _ _ e => absurd e (by decide)) (fun _ _ _ _ _ _ p q e w1 w2 => by cases e; rfl)
theorem at_empty_layer {K : PySem.W.Frag} {h : Heap} {mg : Str → Option Value} {f : Addr} {od an : Option Addr} {sl : Array (Option Value)} {oc kV dc pm cd ct : Value} (X : K.In h) (G : h.Ns mainGlobals mg) (a : PySem.W.nsIn K mainGlobals "empty_layer" = some (some (.ref f))) (l : K.lookup f = some ⟨oc, od, .func (PySem.W.fnOf "empty_layer" "empty_layer" (defArgs s_empty_layer) (defBody s_empty_layer) (defScope s_empty_layer) .none kV dc pm an cd ct), sl⟩) (c : PySem.W.codeIn K cd "empty_layer" = true) (k : PySem.W.keepIn K (.ref f) = true) : At K mg "empty_layer" s_empty_layer ["size"] :=
  at_mk X G a l c k (fun _ _ _ _ _ _ us hl => match us, hl with | [_], _ => rfl) (fun _ _ _ _ _ _ _ _ => rfl) (fun _ _ _ _ _ _ p q e => by cases e)
theorem at_filled {K : PySem.W.Frag} {h : Heap} {mg : Str → Option Value} {f : Addr} {od an : Option Addr} {sl : Array (Option Value)} {oc kV dc pm cd ct : Value} (X : K.In h) (G : h.Ns mainGlobals mg) (a : PySem.W.nsIn K mainGlobals "filled" = some (some (.ref f))) (l : K.lookup f = some ⟨oc, od, .func (PySem.W.fnOf "filled" "filled" (defArgs s_filled) (defBody s_filled) (defScope s_filled) .none kV dc pm an cd ct), sl⟩) (c : PySem.W.codeIn K cd "filled" = true) (k : PySem.W.keepIn K (.ref f) = true) : At K mg "filled" s_filled ["one"] :=
  at_mk X G a l c k (fun _ _ _ _ _ _ us hl => match us, hl with | [_], _ => rfl) (fun _ _ _ _ _ _ _ _ => rfl) (fun _ _ _ _ _ _ p q e => by cases e)
theorem at_layer_order {K : PySem.W.Frag} {h : Heap} {mg : Str → Option Value} {f : Addr} {od an : Option Addr} {sl : Array (Option Value)} {oc kV dc pm cd ct : Value} (X : K.In h) (G : h.Ns mainGlobals mg) (a : PySem.W.nsIn K mainGlobals "layer_order" = some (some (.ref f))) (l : K.lookup f = some ⟨oc, od, .func (PySem.W.fnOf "layer_order" "layer_order" (defArgs s_layer_order) (defBody s_layer_order) (defScope s_layer_order) .none kV dc pm an cd ct), sl⟩) (c : PySem.W.codeIn K cd "layer_order" = true) (k : PySem.W.keepIn K (.ref f) = true) : At K mg "layer_order" s_layer_order ["one"] :=
  at_mk X G a l c k (fun _ _ _ _ _ _ us hl => match us, hl with | [_], _ => rfl) (fun _ _ _ _ _ _ _ _ => rfl) (fun _ _ _ _ _ _ p q e => by cases e)
theorem at_press {K : PySem.W.Frag} {h : Heap} {mg : Str → Option Value} {f : Addr} {od an : Option Addr} {sl : Array (Option Value)} {oc kV dc pm cd ct : Value} (X : K.In h) (G : h.Ns mainGlobals mg) (a : PySem.W.nsIn K mainGlobals "press" = some (some (.ref f))) (l : K.lookup f = some ⟨oc, od, .func (PySem.W.fnOf "press" "press" (defArgs s_press) (defBody s_press) (defScope s_press) .none kV dc pm an cd ct), sl⟩) (c : PySem.W.codeIn K cd "press" = true) (k : PySem.W.keepIn K (.ref f) = true) : At K mg "press" s_press ["one", "two"] :=
  at_mk X G a l c k (fun _ _ _ _ _ _ us hl => match us, hl with | [_, _], _ => rfl) (fun _ _ _ _ _ _ e => absurd e (by decide)) (fun _ _ _ _ _ _ p q e w1 w2 => by cases e; rfl)
theorem at__law_whole {K : PySem.W.Frag} {h : Heap} {mg : Str → Option Value} {f : Addr} {od an : Option Addr} {sl : Array (Option Value)} {oc kV dc pm cd ct : Value} (X : K.In h) (G : h.Ns mainGlobals mg) (a : PySem.W.nsIn K mainGlobals "_law_whole" = some (some (.ref f))) (l : K.lookup f = some ⟨oc, od, .func (PySem.W.fnOf "_law_whole" "_law_whole" (defArgs s__law_whole) (defBody s__law_whole) (defScope s__law_whole) .none kV dc pm an cd ct), sl⟩) (c : PySem.W.codeIn K cd "_law_whole" = true) (k : PySem.W.keepIn K (.ref f) = true) : At K mg "_law_whole" s__law_whole ["value"] :=
  at_mk X G a l c k (fun _ _ _ _ _ _ us hl => match us, hl with | [_], _ => rfl) (fun _ _ _ _ _ _ _ _ => rfl) (fun _ _ _ _ _ _ p q e => by cases e)
theorem at__law_cell {K : PySem.W.Frag} {h : Heap} {mg : Str → Option Value} {f : Addr} {od an : Option Addr} {sl : Array (Option Value)} {oc kV dc pm cd ct : Value} (X : K.In h) (G : h.Ns mainGlobals mg) (a : PySem.W.nsIn K mainGlobals "_law_cell" = some (some (.ref f))) (l : K.lookup f = some ⟨oc, od, .func (PySem.W.fnOf "_law_cell" "_law_cell" (defArgs s__law_cell) (defBody s__law_cell) (defScope s__law_cell) .none kV dc pm an cd ct), sl⟩) (c : PySem.W.codeIn K cd "_law_cell" = true) (k : PySem.W.keepIn K (.ref f) = true) : At K mg "_law_cell" s__law_cell ["script", "k"] :=
  at_mk X G a l c k (fun _ _ _ _ _ _ us hl => match us, hl with | [_, _], _ => rfl) (fun _ _ _ _ _ _ e => absurd e (by decide)) (fun _ _ _ _ _ _ p q e w1 w2 => by cases e; rfl)
theorem at__law_draw {K : PySem.W.Frag} {h : Heap} {mg : Str → Option Value} {f : Addr} {od an : Option Addr} {sl : Array (Option Value)} {oc kV dc pm cd ct : Value} (X : K.In h) (G : h.Ns mainGlobals mg) (a : PySem.W.nsIn K mainGlobals "_law_draw" = some (some (.ref f))) (l : K.lookup f = some ⟨oc, od, .func (PySem.W.fnOf "_law_draw" "_law_draw" (defArgs s__law_draw) (defBody s__law_draw) (defScope s__law_draw) .none kV dc pm an cd ct), sl⟩) (c : PySem.W.codeIn K cd "_law_draw" = true) (k : PySem.W.keepIn K (.ref f) = true) : At K mg "_law_draw" s__law_draw ["script", "k", "sizes"] :=
  at_mk X G a l c k (fun _ _ _ _ _ _ us hl => match us, hl with | [_, _, _], _ => rfl) (fun _ _ _ _ _ _ e => absurd e (by decide)) (fun _ _ _ _ _ _ p q e => by cases e)
theorem at__law_size {K : PySem.W.Frag} {h : Heap} {mg : Str → Option Value} {f : Addr} {od an : Option Addr} {sl : Array (Option Value)} {oc kV dc pm cd ct : Value} (X : K.In h) (G : h.Ns mainGlobals mg) (a : PySem.W.nsIn K mainGlobals "_law_size" = some (some (.ref f))) (l : K.lookup f = some ⟨oc, od, .func (PySem.W.fnOf "_law_size" "_law_size" (defArgs s__law_size) (defBody s__law_size) (defScope s__law_size) .none kV dc pm an cd ct), sl⟩) (c : PySem.W.codeIn K cd "_law_size" = true) (k : PySem.W.keepIn K (.ref f) = true) : At K mg "_law_size" s__law_size ["digit"] :=
  at_mk X G a l c k (fun _ _ _ _ _ _ us hl => match us, hl with | [_], _ => rfl) (fun _ _ _ _ _ _ _ _ => rfl) (fun _ _ _ _ _ _ p q e => by cases e)
theorem at__law_inks {K : PySem.W.Frag} {h : Heap} {mg : Str → Option Value} {f : Addr} {od an : Option Addr} {sl : Array (Option Value)} {oc kV dc pm cd ct : Value} (X : K.In h) (G : h.Ns mainGlobals mg) (a : PySem.W.nsIn K mainGlobals "_law_inks" = some (some (.ref f))) (l : K.lookup f = some ⟨oc, od, .func (PySem.W.fnOf "_law_inks" "_law_inks" (defArgs s__law_inks) (defBody s__law_inks) (defScope s__law_inks) .none kV dc pm an cd ct), sl⟩) (c : PySem.W.codeIn K cd "_law_inks" = true) (k : PySem.W.keepIn K (.ref f) = true) : At K mg "_law_inks" s__law_inks ["spots"] :=
  at_mk X G a l c k (fun _ _ _ _ _ _ us hl => match us, hl with | [_], _ => rfl) (fun _ _ _ _ _ _ _ _ => rfl) (fun _ _ _ _ _ _ p q e => by cases e)
theorem at__law_layer {K : PySem.W.Frag} {h : Heap} {mg : Str → Option Value} {f : Addr} {od an : Option Addr} {sl : Array (Option Value)} {oc kV dc pm cd ct : Value} (X : K.In h) (G : h.Ns mainGlobals mg) (a : PySem.W.nsIn K mainGlobals "_law_layer" = some (some (.ref f))) (l : K.lookup f = some ⟨oc, od, .func (PySem.W.fnOf "_law_layer" "_law_layer" (defArgs s__law_layer) (defBody s__law_layer) (defScope s__law_layer) .none kV dc pm an cd ct), sl⟩) (c : PySem.W.codeIn K cd "_law_layer" = true) (k : PySem.W.keepIn K (.ref f) = true) : At K mg "_law_layer" s__law_layer ["inks", "share", "spots", "wide"] :=
  at_mk X G a l c k (fun _ _ _ _ _ _ us hl => match us, hl with | [_, _, _, _], _ => rfl) (fun _ _ _ _ _ _ e => absurd e (by decide)) (fun _ _ _ _ _ _ p q e => by cases e)
theorem at__law_other {K : PySem.W.Frag} {h : Heap} {mg : Str → Option Value} {f : Addr} {od an : Option Addr} {sl : Array (Option Value)} {oc kV dc pm cd ct : Value} (X : K.In h) (G : h.Ns mainGlobals mg) (a : PySem.W.nsIn K mainGlobals "_law_other" = some (some (.ref f))) (l : K.lookup f = some ⟨oc, od, .func (PySem.W.fnOf "_law_other" "_law_other" (defArgs s__law_other) (defBody s__law_other) (defScope s__law_other) .none kV dc pm an cd ct), sl⟩) (c : PySem.W.codeIn K cd "_law_other" = true) (k : PySem.W.keepIn K (.ref f) = true) : At K mg "_law_other" s__law_other ["mark", "step"] :=
  at_mk X G a l c k (fun _ _ _ _ _ _ us hl => match us, hl with | [_, _], _ => rfl) (fun _ _ _ _ _ _ e => absurd e (by decide)) (fun _ _ _ _ _ _ p q e w1 w2 => by cases e; rfl)
theorem at__law_second {K : PySem.W.Frag} {h : Heap} {mg : Str → Option Value} {f : Addr} {od an : Option Addr} {sl : Array (Option Value)} {oc kV dc pm cd ct : Value} (X : K.In h) (G : h.Ns mainGlobals mg) (a : PySem.W.nsIn K mainGlobals "_law_second" = some (some (.ref f))) (l : K.lookup f = some ⟨oc, od, .func (PySem.W.fnOf "_law_second" "_law_second" (defArgs s__law_second) (defBody s__law_second) (defScope s__law_second) .none kV dc pm an cd ct), sl⟩) (c : PySem.W.codeIn K cd "_law_second" = true) (k : PySem.W.keepIn K (.ref f) = true) : At K mg "_law_second" s__law_second ["low", "free", "mode", "place", "step", "turns"] :=
  at_mk X G a l c k (fun _ _ _ _ _ _ us hl => match us, hl with | [_, _, _, _, _, _], _ => rfl) (fun _ _ _ _ _ _ e => absurd e (by decide)) (fun _ _ _ _ _ _ p q e => by cases e)
theorem at__law_close {K : PySem.W.Frag} {h : Heap} {mg : Str → Option Value} {f : Addr} {od an : Option Addr} {sl : Array (Option Value)} {oc kV dc pm cd ct : Value} (X : K.In h) (G : h.Ns mainGlobals mg) (a : PySem.W.nsIn K mainGlobals "_law_close" = some (some (.ref f))) (l : K.lookup f = some ⟨oc, od, .func (PySem.W.fnOf "_law_close" "_law_close" (defArgs s__law_close) (defBody s__law_close) (defScope s__law_close) .none kV dc pm an cd ct), sl⟩) (c : PySem.W.codeIn K cd "_law_close" = true) (k : PySem.W.keepIn K (.ref f) = true) : At K mg "_law_close" s__law_close ["text", "place", "number"] :=
  at_mk X G a l c k (fun _ _ _ _ _ _ us hl => match us, hl with | [_, _, _], _ => rfl) (fun _ _ _ _ _ _ e => absurd e (by decide)) (fun _ _ _ _ _ _ p q e => by cases e)
theorem at__law_layers {K : PySem.W.Frag} {h : Heap} {mg : Str → Option Value} {f : Addr} {od an : Option Addr} {sl : Array (Option Value)} {oc kV dc pm cd ct : Value} (X : K.In h) (G : h.Ns mainGlobals mg) (a : PySem.W.nsIn K mainGlobals "_law_layers" = some (some (.ref f))) (l : K.lookup f = some ⟨oc, od, .func (PySem.W.fnOf "_law_layers" "_law_layers" (defArgs s__law_layers) (defBody s__law_layers) (defScope s__law_layers) .none kV dc pm an cd ct), sl⟩) (c : PySem.W.codeIn K cd "_law_layers" = true) (k : PySem.W.keepIn K (.ref f) = true) : At K mg "_law_layers" s__law_layers ["script", "at", "inks", "wide", "many"] :=
  at_mk X G a l c k (fun _ _ _ _ _ _ us hl => match us, hl with | [_, _, _, _, _], _ => rfl) (fun _ _ _ _ _ _ e => absurd e (by decide)) (fun _ _ _ _ _ _ p q e => by cases e)
theorem at__law_agree {K : PySem.W.Frag} {h : Heap} {mg : Str → Option Value} {f : Addr} {od an : Option Addr} {sl : Array (Option Value)} {oc kV dc pm cd ct : Value} (X : K.In h) (G : h.Ns mainGlobals mg) (a : PySem.W.nsIn K mainGlobals "_law_agree" = some (some (.ref f))) (l : K.lookup f = some ⟨oc, od, .func (PySem.W.fnOf "_law_agree" "_law_agree" (defArgs s__law_agree) (defBody s__law_agree) (defScope s__law_agree) .none kV dc pm an cd ct), sl⟩) (c : PySem.W.codeIn K cd "_law_agree" = true) (k : PySem.W.keepIn K (.ref f) = true) : At K mg "_law_agree" s__law_agree ["low", "high"] :=
  at_mk X G a l c k (fun _ _ _ _ _ _ us hl => match us, hl with | [_, _], _ => rfl) (fun _ _ _ _ _ _ e => absurd e (by decide)) (fun _ _ _ _ _ _ p q e w1 w2 => by cases e; rfl)
theorem at__law_pair {K : PySem.W.Frag} {h : Heap} {mg : Str → Option Value} {f : Addr} {od an : Option Addr} {sl : Array (Option Value)} {oc kV dc pm cd ct : Value} (X : K.In h) (G : h.Ns mainGlobals mg) (a : PySem.W.nsIn K mainGlobals "_law_pair" = some (some (.ref f))) (l : K.lookup f = some ⟨oc, od, .func (PySem.W.fnOf "_law_pair" "_law_pair" (defArgs s__law_pair) (defBody s__law_pair) (defScope s__law_pair) .none kV dc pm an cd ct), sl⟩) (c : PySem.W.codeIn K cd "_law_pair" = true) (k : PySem.W.keepIn K (.ref f) = true) : At K mg "_law_pair" s__law_pair ["low", "high", "by_name"] :=
  at_mk X G a l c k (fun _ _ _ _ _ _ us hl => match us, hl with | [_, _, _], _ => rfl) (fun _ _ _ _ _ _ e => absurd e (by decide)) (fun _ _ _ _ _ _ p q e => by cases e)
theorem at__law_cells {K : PySem.W.Frag} {h : Heap} {mg : Str → Option Value} {f : Addr} {od an : Option Addr} {sl : Array (Option Value)} {oc kV dc pm cd ct : Value} (X : K.In h) (G : h.Ns mainGlobals mg) (a : PySem.W.nsIn K mainGlobals "_law_cells" = some (some (.ref f))) (l : K.lookup f = some ⟨oc, od, .func (PySem.W.fnOf "_law_cells" "_law_cells" (defArgs s__law_cells) (defBody s__law_cells) (defScope s__law_cells) .none kV dc pm an cd ct), sl⟩) (c : PySem.W.codeIn K cd "_law_cells" = true) (k : PySem.W.keepIn K (.ref f) = true) : At K mg "_law_cells" s__law_cells ["low", "by_name"] :=
  at_mk X G a l c k (fun _ _ _ _ _ _ us hl => match us, hl with | [_, _], _ => rfl) (fun _ _ _ _ _ _ e => absurd e (by decide)) (fun _ _ _ _ _ _ p q e w1 w2 => by cases e; rfl)
theorem at__law_chosen {K : PySem.W.Frag} {h : Heap} {mg : Str → Option Value} {f : Addr} {od an : Option Addr} {sl : Array (Option Value)} {oc kV dc pm cd ct : Value} (X : K.In h) (G : h.Ns mainGlobals mg) (a : PySem.W.nsIn K mainGlobals "_law_chosen" = some (some (.ref f))) (l : K.lookup f = some ⟨oc, od, .func (PySem.W.fnOf "_law_chosen" "_law_chosen" (defArgs s__law_chosen) (defBody s__law_chosen) (defScope s__law_chosen) .none kV dc pm an cd ct), sl⟩) (c : PySem.W.codeIn K cd "_law_chosen" = true) (k : PySem.W.keepIn K (.ref f) = true) : At K mg "_law_chosen" s__law_chosen ["low", "picked", "by_name"] :=
  at_mk X G a l c k (fun _ _ _ _ _ _ us hl => match us, hl with | [_, _, _], _ => rfl) (fun _ _ _ _ _ _ e => absurd e (by decide)) (fun _ _ _ _ _ _ p q e => by cases e)
theorem at__law_alone {K : PySem.W.Frag} {h : Heap} {mg : Str → Option Value} {f : Addr} {od an : Option Addr} {sl : Array (Option Value)} {oc kV dc pm cd ct : Value} (X : K.In h) (G : h.Ns mainGlobals mg) (a : PySem.W.nsIn K mainGlobals "_law_alone" = some (some (.ref f))) (l : K.lookup f = some ⟨oc, od, .func (PySem.W.fnOf "_law_alone" "_law_alone" (defArgs s__law_alone) (defBody s__law_alone) (defScope s__law_alone) .none kV dc pm an cd ct), sl⟩) (c : PySem.W.codeIn K cd "_law_alone" = true) (k : PySem.W.keepIn K (.ref f) = true) : At K mg "_law_alone" s__law_alone ["low", "wide", "by_name"] :=
  at_mk X G a l c k (fun _ _ _ _ _ _ us hl => match us, hl with | [_, _, _], _ => rfl) (fun _ _ _ _ _ _ e => absurd e (by decide)) (fun _ _ _ _ _ _ p q e => by cases e)
theorem at__law_press {K : PySem.W.Frag} {h : Heap} {mg : Str → Option Value} {f : Addr} {od an : Option Addr} {sl : Array (Option Value)} {oc kV dc pm cd ct : Value} (X : K.In h) (G : h.Ns mainGlobals mg) (a : PySem.W.nsIn K mainGlobals "_law_press" = some (some (.ref f))) (l : K.lookup f = some ⟨oc, od, .func (PySem.W.fnOf "_law_press" "_law_press" (defArgs s__law_press) (defBody s__law_press) (defScope s__law_press) .none kV dc pm an cd ct), sl⟩) (c : PySem.W.codeIn K cd "_law_press" = true) (k : PySem.W.keepIn K (.ref f) = true) : At K mg "_law_press" s__law_press ["low", "high"] :=
  at_mk X G a l c k (fun _ _ _ _ _ _ us hl => match us, hl with | [_, _], _ => rfl) (fun _ _ _ _ _ _ e => absurd e (by decide)) (fun _ _ _ _ _ _ p q e w1 w2 => by cases e; rfl)
theorem at__law_told {K : PySem.W.Frag} {h : Heap} {mg : Str → Option Value} {f : Addr} {od an : Option Addr} {sl : Array (Option Value)} {oc kV dc pm cd ct : Value} (X : K.In h) (G : h.Ns mainGlobals mg) (a : PySem.W.nsIn K mainGlobals "_law_told" = some (some (.ref f))) (l : K.lookup f = some ⟨oc, od, .func (PySem.W.fnOf "_law_told" "_law_told" (defArgs s__law_told) (defBody s__law_told) (defScope s__law_told) .none kV dc pm an cd ct), sl⟩) (c : PySem.W.codeIn K cd "_law_told" = true) (k : PySem.W.keepIn K (.ref f) = true) : At K mg "_law_told" s__law_told ["low", "high"] :=
  at_mk X G a l c k (fun _ _ _ _ _ _ us hl => match us, hl with | [_, _], _ => rfl) (fun _ _ _ _ _ _ e => absurd e (by decide)) (fun _ _ _ _ _ _ p q e w1 w2 => by cases e; rfl)
theorem at__law_presses_right {K : PySem.W.Frag} {h : Heap} {mg : Str → Option Value} {f : Addr} {od an : Option Addr} {sl : Array (Option Value)} {oc kV dc pm cd ct : Value} (X : K.In h) (G : h.Ns mainGlobals mg) (a : PySem.W.nsIn K mainGlobals "_law_presses_right" = some (some (.ref f))) (l : K.lookup f = some ⟨oc, od, .func (PySem.W.fnOf "_law_presses_right" "_law_presses_right" (defArgs s__law_presses_right) (defBody s__law_presses_right) (defScope s__law_presses_right) .none kV dc pm an cd ct), sl⟩) (c : PySem.W.codeIn K cd "_law_presses_right" = true) (k : PySem.W.keepIn K (.ref f) = true) : At K mg "_law_presses_right" s__law_presses_right ["first", "layers"] :=
  at_mk X G a l c k (fun _ _ _ _ _ _ us hl => match us, hl with | [_, _], _ => rfl) (fun _ _ _ _ _ _ e => absurd e (by decide)) (fun _ _ _ _ _ _ p q e w1 w2 => by cases e; rfl)
theorem at__law_before {K : PySem.W.Frag} {h : Heap} {mg : Str → Option Value} {f : Addr} {od an : Option Addr} {sl : Array (Option Value)} {oc kV dc pm cd ct : Value} (X : K.In h) (G : h.Ns mainGlobals mg) (a : PySem.W.nsIn K mainGlobals "_law_before" = some (some (.ref f))) (l : K.lookup f = some ⟨oc, od, .func (PySem.W.fnOf "_law_before" "_law_before" (defArgs s__law_before) (defBody s__law_before) (defScope s__law_before) .none kV dc pm an cd ct), sl⟩) (c : PySem.W.codeIn K cd "_law_before" = true) (k : PySem.W.keepIn K (.ref f) = true) : At K mg "_law_before" s__law_before ["low", "high"] :=
  at_mk X G a l c k (fun _ _ _ _ _ _ us hl => match us, hl with | [_, _], _ => rfl) (fun _ _ _ _ _ _ e => absurd e (by decide)) (fun _ _ _ _ _ _ p q e w1 w2 => by cases e; rfl)
theorem at__law_ordered {K : PySem.W.Frag} {h : Heap} {mg : Str → Option Value} {f : Addr} {od an : Option Addr} {sl : Array (Option Value)} {oc kV dc pm cd ct : Value} (X : K.In h) (G : h.Ns mainGlobals mg) (a : PySem.W.nsIn K mainGlobals "_law_ordered" = some (some (.ref f))) (l : K.lookup f = some ⟨oc, od, .func (PySem.W.fnOf "_law_ordered" "_law_ordered" (defArgs s__law_ordered) (defBody s__law_ordered) (defScope s__law_ordered) .none kV dc pm an cd ct), sl⟩) (c : PySem.W.codeIn K cd "_law_ordered" = true) (k : PySem.W.keepIn K (.ref f) = true) : At K mg "_law_ordered" s__law_ordered ["found", "layers"] :=
  at_mk X G a l c k (fun _ _ _ _ _ _ us hl => match us, hl with | [_, _], _ => rfl) (fun _ _ _ _ _ _ e => absurd e (by decide)) (fun _ _ _ _ _ _ p q e w1 w2 => by cases e; rfl)
theorem at__law_key {K : PySem.W.Frag} {h : Heap} {mg : Str → Option Value} {f : Addr} {od an : Option Addr} {sl : Array (Option Value)} {oc kV dc pm cd ct : Value} (X : K.In h) (G : h.Ns mainGlobals mg) (a : PySem.W.nsIn K mainGlobals "_law_key" = some (some (.ref f))) (l : K.lookup f = some ⟨oc, od, .func (PySem.W.fnOf "_law_key" "_law_key" (defArgs s__law_key) (defBody s__law_key) (defScope s__law_key) .none kV dc pm an cd ct), sl⟩) (c : PySem.W.codeIn K cd "_law_key" = true) (k : PySem.W.keepIn K (.ref f) = true) : At K mg "_law_key" s__law_key ["text"] :=
  at_mk X G a l c k (fun _ _ _ _ _ _ us hl => match us, hl with | [_], _ => rfl) (fun _ _ _ _ _ _ _ _ => rfl) (fun _ _ _ _ _ _ p q e => by cases e)
theorem at__law_sorted_right {K : PySem.W.Frag} {h : Heap} {mg : Str → Option Value} {f : Addr} {od an : Option Addr} {sl : Array (Option Value)} {oc kV dc pm cd ct : Value} (X : K.In h) (G : h.Ns mainGlobals mg) (a : PySem.W.nsIn K mainGlobals "_law_sorted_right" = some (some (.ref f))) (l : K.lookup f = some ⟨oc, od, .func (PySem.W.fnOf "_law_sorted_right" "_law_sorted_right" (defArgs s__law_sorted_right) (defBody s__law_sorted_right) (defScope s__law_sorted_right) .none kV dc pm an cd ct), sl⟩) (c : PySem.W.codeIn K cd "_law_sorted_right" = true) (k : PySem.W.keepIn K (.ref f) = true) : At K mg "_law_sorted_right" s__law_sorted_right ["layers"] :=
  at_mk X G a l c k (fun _ _ _ _ _ _ us hl => match us, hl with | [_], _ => rfl) (fun _ _ _ _ _ _ _ _ => rfl) (fun _ _ _ _ _ _ p q e => by cases e)
theorem at_law {K : PySem.W.Frag} {h : Heap} {mg : Str → Option Value} {f : Addr} {od an : Option Addr} {sl : Array (Option Value)} {oc kV dc pm cd ct : Value} (X : K.In h) (G : h.Ns mainGlobals mg) (a : PySem.W.nsIn K mainGlobals "law" = some (some (.ref f))) (l : K.lookup f = some ⟨oc, od, .func (PySem.W.fnOf "law" "law" (defArgs s_law) (defBody s_law) (defScope s_law) .none kV dc pm an cd ct), sl⟩) (c : PySem.W.codeIn K cd "law" = true) (k : PySem.W.keepIn K (.ref f) = true) : At K mg "law" s_law ["script"] :=
  at_mk X G a l c k (fun _ _ _ _ _ _ us hl => match us, hl with | [_], _ => rfl) (fun _ _ _ _ _ _ _ _ => rfl) (fun _ _ _ _ _ _ p q e => by cases e)
end Mi

set_option maxHeartbeats 4000000
namespace Mi
open PySem PySem.Spec PyProof.Rows L2 Evl
theorem fn_all {P : Program} {w : World} {K : PySem.W.Frag} {mg : Str → Option Value} {base : Heap} {tD tO : Tok} {f0 : Addr} {fd0 : FuncData} (T : Txt K mg tD tO) (F : Fun K "law" "law" s_law f0 fd0)
    (a_cells_of : At K mg "cells_of" s_cells_of ["one"])
    (a_agree : At K mg "agree" s_agree ["one", "two"])
    (a_within : At K mg "within" s_within ["one", "two"])
    (a_joined : At K mg "joined" s_joined ["one", "two"])
    (a_freed : At K mg "freed" s_freed ["one", "chosen"])
    (a_kept_at : At K mg "kept_at" s_kept_at ["one", "chosen"])
    (a_empty_layer : At K mg "empty_layer" s_empty_layer ["size"])
    (a_filled : At K mg "filled" s_filled ["one"])
    (a_layer_order : At K mg "layer_order" s_layer_order ["one"])
    (a_press : At K mg "press" s_press ["one", "two"])
    (a__law_whole : At K mg "_law_whole" s__law_whole ["value"])
    (a__law_cell : At K mg "_law_cell" s__law_cell ["script", "k"])
    (a__law_draw : At K mg "_law_draw" s__law_draw ["script", "k", "sizes"])
    (a__law_size : At K mg "_law_size" s__law_size ["digit"])
    (a__law_inks : At K mg "_law_inks" s__law_inks ["spots"])
    (a__law_layer : At K mg "_law_layer" s__law_layer ["inks", "share", "spots", "wide"])
    (a__law_other : At K mg "_law_other" s__law_other ["mark", "step"])
    (a__law_second : At K mg "_law_second" s__law_second ["low", "free", "mode", "place", "step", "turns"])
    (a__law_close : At K mg "_law_close" s__law_close ["text", "place", "number"])
    (a__law_layers : At K mg "_law_layers" s__law_layers ["script", "at", "inks", "wide", "many"])
    (a__law_agree : At K mg "_law_agree" s__law_agree ["low", "high"])
    (a__law_pair : At K mg "_law_pair" s__law_pair ["low", "high", "by_name"])
    (a__law_cells : At K mg "_law_cells" s__law_cells ["low", "by_name"])
    (a__law_chosen : At K mg "_law_chosen" s__law_chosen ["low", "picked", "by_name"])
    (a__law_alone : At K mg "_law_alone" s__law_alone ["low", "wide", "by_name"])
    (a__law_press : At K mg "_law_press" s__law_press ["low", "high"])
    (a__law_told : At K mg "_law_told" s__law_told ["low", "high"])
    (a__law_presses_right : At K mg "_law_presses_right" s__law_presses_right ["first", "layers"])
    (a__law_before : At K mg "_law_before" s__law_before ["low", "high"])
    (a__law_ordered : At K mg "_law_ordered" s__law_ordered ["found", "layers"])
    (a__law_key : At K mg "_law_key" s__law_key ["text"])
    (a__law_sorted_right : At K mg "_law_sorted_right" s__law_sorted_right ["layers"])
    : FnOk P w K mg base CX0 6 f0 fd0 ["script"] (spLaw K) := by
  have C_cells_of := has_cells_of (P := P) (w := w) (base := base) T a_cells_of
  have C_agree := has_agree (P := P) (w := w) (base := base) T a_agree
  have C_within := has_within (P := P) (w := w) (base := base) T a_within
  have C_freed := has_freed (P := P) (w := w) (base := base) T a_freed
  have C_kept_at := has_kept_at (P := P) (w := w) (base := base) T a_kept_at
  have C_empty_layer := has_empty_layer (P := P) (w := w) (base := base) T a_empty_layer
  have C_filled := has_filled (P := P) (w := w) (base := base) T a_filled
  have C_layer_order := has_layer_order (P := P) (w := w) (base := base) T a_layer_order
  have C_press := has_press (P := P) (w := w) (base := base) T a_press
  have C__law_whole := has__law_whole (P := P) (w := w) (base := base) T a__law_whole
  have C__law_cell := has__law_cell (P := P) (w := w) (base := base) T a__law_cell
  have C__law_draw := has__law_draw (P := P) (w := w) (base := base) T a__law_draw C__law_cell
  have C__law_size := has__law_size (P := P) (w := w) (base := base) T a__law_size
  have C__law_inks := has__law_inks (P := P) (w := w) (base := base) T a__law_inks
  have C__law_layer := has__law_layer (P := P) (w := w) (base := base) T a__law_layer
  have C__law_other := has__law_other (P := P) (w := w) (base := base) T a__law_other
  have C__law_second := has__law_second (P := P) (w := w) (base := base) T a__law_second C__law_other
  have C__law_close := has__law_close (P := P) (w := w) (base := base) T a__law_close
  have C__law_layers := has__law_layers (P := P) (w := w) (base := base) T a__law_layers C__law_draw C__law_layer C__law_close
  have C__law_agree := has__law_agree (P := P) (w := w) (base := base) T a__law_agree
  have C__law_cells := has__law_cells (P := P) (w := w) (base := base) T a__law_cells C_cells_of C__law_whole
  have C__law_chosen := has__law_chosen (P := P) (w := w) (base := base) T a__law_chosen C_freed C_kept_at
  have C__law_alone := has__law_alone (P := P) (w := w) (base := base) T a__law_alone C_filled C_empty_layer
  have C__law_press := has__law_press (P := P) (w := w) (base := base) T a__law_press
  have C__law_told := has__law_told (P := P) (w := w) (base := base) T a__law_told C_press C__law_press
  have C__law_presses_right := has__law_presses_right (P := P) (w := w) (base := base) T a__law_presses_right C_press C__law_press C__law_told
  have C__law_before := has__law_before (P := P) (w := w) (base := base) T a__law_before
  have C__law_ordered := has__law_ordered (P := P) (w := w) (base := base) T a__law_ordered C__law_before
  have C__law_key := has__law_key (P := P) (w := w) (base := base) T a__law_key C_layer_order
  have C__law_sorted_right := has__law_sorted_right (P := P) (w := w) (base := base) T a__law_sorted_right C_layer_order C__law_key C__law_ordered
  have C_joined := has_joined (P := P) (w := w) (base := base) T a_joined C_agree C_press
  have C__law_pair := has__law_pair (P := P) (w := w) (base := base) T a__law_pair C_agree C_within C_joined C__law_agree
  exact fn_law T F C__law_draw C__law_size C__law_inks C__law_layer C__law_second C__law_layers C__law_pair C__law_cells C__law_chosen C__law_alone C__law_presses_right C__law_sorted_right
theorem all_mk {l : PySem.W.OpenLaw} {w : World} {K : PySem.W.Frag} {h : Heap} {mg : Str → Option Value} {fa : Addr} {tD tO : Tok} {xD xO : Str} (X : K.In h) (G : h.Ns mainGlobals mg) (hfa : mg "law" = some (.ref fa))
    {f0 : Addr} {od0 an0 : Option Addr} {sl0 : Array (Option Value)} {oc0 kV0 dc0 pm0 cd0 ct0 : Value}
    {f1 : Addr} {od1 an1 : Option Addr} {sl1 : Array (Option Value)} {oc1 kV1 dc1 pm1 cd1 ct1 : Value}
    {f2 : Addr} {od2 an2 : Option Addr} {sl2 : Array (Option Value)} {oc2 kV2 dc2 pm2 cd2 ct2 : Value}
    {f3 : Addr} {od3 an3 : Option Addr} {sl3 : Array (Option Value)} {oc3 kV3 dc3 pm3 cd3 ct3 : Value}
    {f4 : Addr} {od4 an4 : Option Addr} {sl4 : Array (Option Value)} {oc4 kV4 dc4 pm4 cd4 ct4 : Value}
    {f5 : Addr} {od5 an5 : Option Addr} {sl5 : Array (Option Value)} {oc5 kV5 dc5 pm5 cd5 ct5 : Value}
    {f6 : Addr} {od6 an6 : Option Addr} {sl6 : Array (Option Value)} {oc6 kV6 dc6 pm6 cd6 ct6 : Value}
    {f7 : Addr} {od7 an7 : Option Addr} {sl7 : Array (Option Value)} {oc7 kV7 dc7 pm7 cd7 ct7 : Value}
    {f8 : Addr} {od8 an8 : Option Addr} {sl8 : Array (Option Value)} {oc8 kV8 dc8 pm8 cd8 ct8 : Value}
    {f9 : Addr} {od9 an9 : Option Addr} {sl9 : Array (Option Value)} {oc9 kV9 dc9 pm9 cd9 ct9 : Value}
    {f10 : Addr} {od10 an10 : Option Addr} {sl10 : Array (Option Value)} {oc10 kV10 dc10 pm10 cd10 ct10 : Value}
    {f11 : Addr} {od11 an11 : Option Addr} {sl11 : Array (Option Value)} {oc11 kV11 dc11 pm11 cd11 ct11 : Value}
    {f12 : Addr} {od12 an12 : Option Addr} {sl12 : Array (Option Value)} {oc12 kV12 dc12 pm12 cd12 ct12 : Value}
    {f13 : Addr} {od13 an13 : Option Addr} {sl13 : Array (Option Value)} {oc13 kV13 dc13 pm13 cd13 ct13 : Value}
    {f14 : Addr} {od14 an14 : Option Addr} {sl14 : Array (Option Value)} {oc14 kV14 dc14 pm14 cd14 ct14 : Value}
    {f15 : Addr} {od15 an15 : Option Addr} {sl15 : Array (Option Value)} {oc15 kV15 dc15 pm15 cd15 ct15 : Value}
    {f16 : Addr} {od16 an16 : Option Addr} {sl16 : Array (Option Value)} {oc16 kV16 dc16 pm16 cd16 ct16 : Value}
    {f17 : Addr} {od17 an17 : Option Addr} {sl17 : Array (Option Value)} {oc17 kV17 dc17 pm17 cd17 ct17 : Value}
    {f18 : Addr} {od18 an18 : Option Addr} {sl18 : Array (Option Value)} {oc18 kV18 dc18 pm18 cd18 ct18 : Value}
    {f19 : Addr} {od19 an19 : Option Addr} {sl19 : Array (Option Value)} {oc19 kV19 dc19 pm19 cd19 ct19 : Value}
    {f20 : Addr} {od20 an20 : Option Addr} {sl20 : Array (Option Value)} {oc20 kV20 dc20 pm20 cd20 ct20 : Value}
    {f21 : Addr} {od21 an21 : Option Addr} {sl21 : Array (Option Value)} {oc21 kV21 dc21 pm21 cd21 ct21 : Value}
    {f22 : Addr} {od22 an22 : Option Addr} {sl22 : Array (Option Value)} {oc22 kV22 dc22 pm22 cd22 ct22 : Value}
    {f23 : Addr} {od23 an23 : Option Addr} {sl23 : Array (Option Value)} {oc23 kV23 dc23 pm23 cd23 ct23 : Value}
    {f24 : Addr} {od24 an24 : Option Addr} {sl24 : Array (Option Value)} {oc24 kV24 dc24 pm24 cd24 ct24 : Value}
    {f25 : Addr} {od25 an25 : Option Addr} {sl25 : Array (Option Value)} {oc25 kV25 dc25 pm25 cd25 ct25 : Value}
    {f26 : Addr} {od26 an26 : Option Addr} {sl26 : Array (Option Value)} {oc26 kV26 dc26 pm26 cd26 ct26 : Value}
    {f27 : Addr} {od27 an27 : Option Addr} {sl27 : Array (Option Value)} {oc27 kV27 dc27 pm27 cd27 ct27 : Value}
    {f28 : Addr} {od28 an28 : Option Addr} {sl28 : Array (Option Value)} {oc28 kV28 dc28 pm28 cd28 ct28 : Value}
    {f29 : Addr} {od29 an29 : Option Addr} {sl29 : Array (Option Value)} {oc29 kV29 dc29 pm29 cd29 ct29 : Value}
    {f30 : Addr} {od30 an30 : Option Addr} {sl30 : Array (Option Value)} {oc30 kV30 dc30 pm30 cd30 ct30 : Value}
    {f31 : Addr} {od31 an31 : Option Addr} {sl31 : Array (Option Value)} {oc31 kV31 dc31 pm31 cd31 ct31 : Value}
    {f32 : Addr} {od32 an32 : Option Addr} {sl32 : Array (Option Value)} {oc32 kV32 dc32 pm32 cd32 ct32 : Value}
    (a0 : PySem.W.nsIn K mainGlobals "cells_of" = some (some (.ref f0))) (l0 : K.lookup f0 = some ⟨oc0, od0, .func (PySem.W.fnOf "cells_of" "cells_of" (defArgs s_cells_of) (defBody s_cells_of) (defScope s_cells_of) .none kV0 dc0 pm0 an0 cd0 ct0), sl0⟩) (c0 : PySem.W.codeIn K cd0 "cells_of" = true) (k0 : PySem.W.keepIn K (.ref f0) = true)
    (a1 : PySem.W.nsIn K mainGlobals "agree" = some (some (.ref f1))) (l1 : K.lookup f1 = some ⟨oc1, od1, .func (PySem.W.fnOf "agree" "agree" (defArgs s_agree) (defBody s_agree) (defScope s_agree) .none kV1 dc1 pm1 an1 cd1 ct1), sl1⟩) (c1 : PySem.W.codeIn K cd1 "agree" = true) (k1 : PySem.W.keepIn K (.ref f1) = true)
    (a2 : PySem.W.nsIn K mainGlobals "within" = some (some (.ref f2))) (l2 : K.lookup f2 = some ⟨oc2, od2, .func (PySem.W.fnOf "within" "within" (defArgs s_within) (defBody s_within) (defScope s_within) .none kV2 dc2 pm2 an2 cd2 ct2), sl2⟩) (c2 : PySem.W.codeIn K cd2 "within" = true) (k2 : PySem.W.keepIn K (.ref f2) = true)
    (a3 : PySem.W.nsIn K mainGlobals "joined" = some (some (.ref f3))) (l3 : K.lookup f3 = some ⟨oc3, od3, .func (PySem.W.fnOf "joined" "joined" (defArgs s_joined) (defBody s_joined) (defScope s_joined) .none kV3 dc3 pm3 an3 cd3 ct3), sl3⟩) (c3 : PySem.W.codeIn K cd3 "joined" = true) (k3 : PySem.W.keepIn K (.ref f3) = true)
    (a4 : PySem.W.nsIn K mainGlobals "freed" = some (some (.ref f4))) (l4 : K.lookup f4 = some ⟨oc4, od4, .func (PySem.W.fnOf "freed" "freed" (defArgs s_freed) (defBody s_freed) (defScope s_freed) .none kV4 dc4 pm4 an4 cd4 ct4), sl4⟩) (c4 : PySem.W.codeIn K cd4 "freed" = true) (k4 : PySem.W.keepIn K (.ref f4) = true)
    (a5 : PySem.W.nsIn K mainGlobals "kept_at" = some (some (.ref f5))) (l5 : K.lookup f5 = some ⟨oc5, od5, .func (PySem.W.fnOf "kept_at" "kept_at" (defArgs s_kept_at) (defBody s_kept_at) (defScope s_kept_at) .none kV5 dc5 pm5 an5 cd5 ct5), sl5⟩) (c5 : PySem.W.codeIn K cd5 "kept_at" = true) (k5 : PySem.W.keepIn K (.ref f5) = true)
    (a6 : PySem.W.nsIn K mainGlobals "empty_layer" = some (some (.ref f6))) (l6 : K.lookup f6 = some ⟨oc6, od6, .func (PySem.W.fnOf "empty_layer" "empty_layer" (defArgs s_empty_layer) (defBody s_empty_layer) (defScope s_empty_layer) .none kV6 dc6 pm6 an6 cd6 ct6), sl6⟩) (c6 : PySem.W.codeIn K cd6 "empty_layer" = true) (k6 : PySem.W.keepIn K (.ref f6) = true)
    (a7 : PySem.W.nsIn K mainGlobals "filled" = some (some (.ref f7))) (l7 : K.lookup f7 = some ⟨oc7, od7, .func (PySem.W.fnOf "filled" "filled" (defArgs s_filled) (defBody s_filled) (defScope s_filled) .none kV7 dc7 pm7 an7 cd7 ct7), sl7⟩) (c7 : PySem.W.codeIn K cd7 "filled" = true) (k7 : PySem.W.keepIn K (.ref f7) = true)
    (a8 : PySem.W.nsIn K mainGlobals "layer_order" = some (some (.ref f8))) (l8 : K.lookup f8 = some ⟨oc8, od8, .func (PySem.W.fnOf "layer_order" "layer_order" (defArgs s_layer_order) (defBody s_layer_order) (defScope s_layer_order) .none kV8 dc8 pm8 an8 cd8 ct8), sl8⟩) (c8 : PySem.W.codeIn K cd8 "layer_order" = true) (k8 : PySem.W.keepIn K (.ref f8) = true)
    (a9 : PySem.W.nsIn K mainGlobals "press" = some (some (.ref f9))) (l9 : K.lookup f9 = some ⟨oc9, od9, .func (PySem.W.fnOf "press" "press" (defArgs s_press) (defBody s_press) (defScope s_press) .none kV9 dc9 pm9 an9 cd9 ct9), sl9⟩) (c9 : PySem.W.codeIn K cd9 "press" = true) (k9 : PySem.W.keepIn K (.ref f9) = true)
    (a10 : PySem.W.nsIn K mainGlobals "_law_whole" = some (some (.ref f10))) (l10 : K.lookup f10 = some ⟨oc10, od10, .func (PySem.W.fnOf "_law_whole" "_law_whole" (defArgs s__law_whole) (defBody s__law_whole) (defScope s__law_whole) .none kV10 dc10 pm10 an10 cd10 ct10), sl10⟩) (c10 : PySem.W.codeIn K cd10 "_law_whole" = true) (k10 : PySem.W.keepIn K (.ref f10) = true)
    (a11 : PySem.W.nsIn K mainGlobals "_law_cell" = some (some (.ref f11))) (l11 : K.lookup f11 = some ⟨oc11, od11, .func (PySem.W.fnOf "_law_cell" "_law_cell" (defArgs s__law_cell) (defBody s__law_cell) (defScope s__law_cell) .none kV11 dc11 pm11 an11 cd11 ct11), sl11⟩) (c11 : PySem.W.codeIn K cd11 "_law_cell" = true) (k11 : PySem.W.keepIn K (.ref f11) = true)
    (a12 : PySem.W.nsIn K mainGlobals "_law_draw" = some (some (.ref f12))) (l12 : K.lookup f12 = some ⟨oc12, od12, .func (PySem.W.fnOf "_law_draw" "_law_draw" (defArgs s__law_draw) (defBody s__law_draw) (defScope s__law_draw) .none kV12 dc12 pm12 an12 cd12 ct12), sl12⟩) (c12 : PySem.W.codeIn K cd12 "_law_draw" = true) (k12 : PySem.W.keepIn K (.ref f12) = true)
    (a13 : PySem.W.nsIn K mainGlobals "_law_size" = some (some (.ref f13))) (l13 : K.lookup f13 = some ⟨oc13, od13, .func (PySem.W.fnOf "_law_size" "_law_size" (defArgs s__law_size) (defBody s__law_size) (defScope s__law_size) .none kV13 dc13 pm13 an13 cd13 ct13), sl13⟩) (c13 : PySem.W.codeIn K cd13 "_law_size" = true) (k13 : PySem.W.keepIn K (.ref f13) = true)
    (a14 : PySem.W.nsIn K mainGlobals "_law_inks" = some (some (.ref f14))) (l14 : K.lookup f14 = some ⟨oc14, od14, .func (PySem.W.fnOf "_law_inks" "_law_inks" (defArgs s__law_inks) (defBody s__law_inks) (defScope s__law_inks) .none kV14 dc14 pm14 an14 cd14 ct14), sl14⟩) (c14 : PySem.W.codeIn K cd14 "_law_inks" = true) (k14 : PySem.W.keepIn K (.ref f14) = true)
    (a15 : PySem.W.nsIn K mainGlobals "_law_layer" = some (some (.ref f15))) (l15 : K.lookup f15 = some ⟨oc15, od15, .func (PySem.W.fnOf "_law_layer" "_law_layer" (defArgs s__law_layer) (defBody s__law_layer) (defScope s__law_layer) .none kV15 dc15 pm15 an15 cd15 ct15), sl15⟩) (c15 : PySem.W.codeIn K cd15 "_law_layer" = true) (k15 : PySem.W.keepIn K (.ref f15) = true)
    (a16 : PySem.W.nsIn K mainGlobals "_law_other" = some (some (.ref f16))) (l16 : K.lookup f16 = some ⟨oc16, od16, .func (PySem.W.fnOf "_law_other" "_law_other" (defArgs s__law_other) (defBody s__law_other) (defScope s__law_other) .none kV16 dc16 pm16 an16 cd16 ct16), sl16⟩) (c16 : PySem.W.codeIn K cd16 "_law_other" = true) (k16 : PySem.W.keepIn K (.ref f16) = true)
    (a17 : PySem.W.nsIn K mainGlobals "_law_second" = some (some (.ref f17))) (l17 : K.lookup f17 = some ⟨oc17, od17, .func (PySem.W.fnOf "_law_second" "_law_second" (defArgs s__law_second) (defBody s__law_second) (defScope s__law_second) .none kV17 dc17 pm17 an17 cd17 ct17), sl17⟩) (c17 : PySem.W.codeIn K cd17 "_law_second" = true) (k17 : PySem.W.keepIn K (.ref f17) = true)
    (a18 : PySem.W.nsIn K mainGlobals "_law_close" = some (some (.ref f18))) (l18 : K.lookup f18 = some ⟨oc18, od18, .func (PySem.W.fnOf "_law_close" "_law_close" (defArgs s__law_close) (defBody s__law_close) (defScope s__law_close) .none kV18 dc18 pm18 an18 cd18 ct18), sl18⟩) (c18 : PySem.W.codeIn K cd18 "_law_close" = true) (k18 : PySem.W.keepIn K (.ref f18) = true)
    (a19 : PySem.W.nsIn K mainGlobals "_law_layers" = some (some (.ref f19))) (l19 : K.lookup f19 = some ⟨oc19, od19, .func (PySem.W.fnOf "_law_layers" "_law_layers" (defArgs s__law_layers) (defBody s__law_layers) (defScope s__law_layers) .none kV19 dc19 pm19 an19 cd19 ct19), sl19⟩) (c19 : PySem.W.codeIn K cd19 "_law_layers" = true) (k19 : PySem.W.keepIn K (.ref f19) = true)
    (a20 : PySem.W.nsIn K mainGlobals "_law_agree" = some (some (.ref f20))) (l20 : K.lookup f20 = some ⟨oc20, od20, .func (PySem.W.fnOf "_law_agree" "_law_agree" (defArgs s__law_agree) (defBody s__law_agree) (defScope s__law_agree) .none kV20 dc20 pm20 an20 cd20 ct20), sl20⟩) (c20 : PySem.W.codeIn K cd20 "_law_agree" = true) (k20 : PySem.W.keepIn K (.ref f20) = true)
    (a21 : PySem.W.nsIn K mainGlobals "_law_pair" = some (some (.ref f21))) (l21 : K.lookup f21 = some ⟨oc21, od21, .func (PySem.W.fnOf "_law_pair" "_law_pair" (defArgs s__law_pair) (defBody s__law_pair) (defScope s__law_pair) .none kV21 dc21 pm21 an21 cd21 ct21), sl21⟩) (c21 : PySem.W.codeIn K cd21 "_law_pair" = true) (k21 : PySem.W.keepIn K (.ref f21) = true)
    (a22 : PySem.W.nsIn K mainGlobals "_law_cells" = some (some (.ref f22))) (l22 : K.lookup f22 = some ⟨oc22, od22, .func (PySem.W.fnOf "_law_cells" "_law_cells" (defArgs s__law_cells) (defBody s__law_cells) (defScope s__law_cells) .none kV22 dc22 pm22 an22 cd22 ct22), sl22⟩) (c22 : PySem.W.codeIn K cd22 "_law_cells" = true) (k22 : PySem.W.keepIn K (.ref f22) = true)
    (a23 : PySem.W.nsIn K mainGlobals "_law_chosen" = some (some (.ref f23))) (l23 : K.lookup f23 = some ⟨oc23, od23, .func (PySem.W.fnOf "_law_chosen" "_law_chosen" (defArgs s__law_chosen) (defBody s__law_chosen) (defScope s__law_chosen) .none kV23 dc23 pm23 an23 cd23 ct23), sl23⟩) (c23 : PySem.W.codeIn K cd23 "_law_chosen" = true) (k23 : PySem.W.keepIn K (.ref f23) = true)
    (a24 : PySem.W.nsIn K mainGlobals "_law_alone" = some (some (.ref f24))) (l24 : K.lookup f24 = some ⟨oc24, od24, .func (PySem.W.fnOf "_law_alone" "_law_alone" (defArgs s__law_alone) (defBody s__law_alone) (defScope s__law_alone) .none kV24 dc24 pm24 an24 cd24 ct24), sl24⟩) (c24 : PySem.W.codeIn K cd24 "_law_alone" = true) (k24 : PySem.W.keepIn K (.ref f24) = true)
    (a25 : PySem.W.nsIn K mainGlobals "_law_press" = some (some (.ref f25))) (l25 : K.lookup f25 = some ⟨oc25, od25, .func (PySem.W.fnOf "_law_press" "_law_press" (defArgs s__law_press) (defBody s__law_press) (defScope s__law_press) .none kV25 dc25 pm25 an25 cd25 ct25), sl25⟩) (c25 : PySem.W.codeIn K cd25 "_law_press" = true) (k25 : PySem.W.keepIn K (.ref f25) = true)
    (a26 : PySem.W.nsIn K mainGlobals "_law_told" = some (some (.ref f26))) (l26 : K.lookup f26 = some ⟨oc26, od26, .func (PySem.W.fnOf "_law_told" "_law_told" (defArgs s__law_told) (defBody s__law_told) (defScope s__law_told) .none kV26 dc26 pm26 an26 cd26 ct26), sl26⟩) (c26 : PySem.W.codeIn K cd26 "_law_told" = true) (k26 : PySem.W.keepIn K (.ref f26) = true)
    (a27 : PySem.W.nsIn K mainGlobals "_law_presses_right" = some (some (.ref f27))) (l27 : K.lookup f27 = some ⟨oc27, od27, .func (PySem.W.fnOf "_law_presses_right" "_law_presses_right" (defArgs s__law_presses_right) (defBody s__law_presses_right) (defScope s__law_presses_right) .none kV27 dc27 pm27 an27 cd27 ct27), sl27⟩) (c27 : PySem.W.codeIn K cd27 "_law_presses_right" = true) (k27 : PySem.W.keepIn K (.ref f27) = true)
    (a28 : PySem.W.nsIn K mainGlobals "_law_before" = some (some (.ref f28))) (l28 : K.lookup f28 = some ⟨oc28, od28, .func (PySem.W.fnOf "_law_before" "_law_before" (defArgs s__law_before) (defBody s__law_before) (defScope s__law_before) .none kV28 dc28 pm28 an28 cd28 ct28), sl28⟩) (c28 : PySem.W.codeIn K cd28 "_law_before" = true) (k28 : PySem.W.keepIn K (.ref f28) = true)
    (a29 : PySem.W.nsIn K mainGlobals "_law_ordered" = some (some (.ref f29))) (l29 : K.lookup f29 = some ⟨oc29, od29, .func (PySem.W.fnOf "_law_ordered" "_law_ordered" (defArgs s__law_ordered) (defBody s__law_ordered) (defScope s__law_ordered) .none kV29 dc29 pm29 an29 cd29 ct29), sl29⟩) (c29 : PySem.W.codeIn K cd29 "_law_ordered" = true) (k29 : PySem.W.keepIn K (.ref f29) = true)
    (a30 : PySem.W.nsIn K mainGlobals "_law_key" = some (some (.ref f30))) (l30 : K.lookup f30 = some ⟨oc30, od30, .func (PySem.W.fnOf "_law_key" "_law_key" (defArgs s__law_key) (defBody s__law_key) (defScope s__law_key) .none kV30 dc30 pm30 an30 cd30 ct30), sl30⟩) (c30 : PySem.W.codeIn K cd30 "_law_key" = true) (k30 : PySem.W.keepIn K (.ref f30) = true)
    (a31 : PySem.W.nsIn K mainGlobals "_law_sorted_right" = some (some (.ref f31))) (l31 : K.lookup f31 = some ⟨oc31, od31, .func (PySem.W.fnOf "_law_sorted_right" "_law_sorted_right" (defArgs s__law_sorted_right) (defBody s__law_sorted_right) (defScope s__law_sorted_right) .none kV31 dc31 pm31 an31 cd31 ct31), sl31⟩) (c31 : PySem.W.codeIn K cd31 "_law_sorted_right" = true) (k31 : PySem.W.keepIn K (.ref f31) = true)
    (a32 : PySem.W.nsIn K mainGlobals "law" = some (some (.ref f32))) (l32 : K.lookup f32 = some ⟨oc32, od32, .func (PySem.W.fnOf "law" "law" (defArgs s_law) (defBody s_law) (defScope s_law) .none kV32 dc32 pm32 an32 cd32 ct32), sl32⟩) (c32 : PySem.W.codeIn K cd32 "law" = true) (k32 : PySem.W.keepIn K (.ref f32) = true)
    (gD : PySem.W.nsIn K mainGlobals "DASH" = some (some (.str xD tD))) (gO : PySem.W.nsIn K mainGlobals "DOT" = some (some (.str xO tO))) (eD : xD = S [45]) (eO : xO = S [46]) (nD : tD ≠ 0) (nO : tO ≠ 0) (nE : tD ≠ tO)
    (z_len : PySem.W.nsIn K mainGlobals "len" = some none)
    (z_int : PySem.W.nsIn K mainGlobals "int" = some none)
    (z_bool : PySem.W.nsIn K mainGlobals "bool" = some none)
    (z_str : PySem.W.nsIn K mainGlobals "str" = some none)
    (z_tuple : PySem.W.nsIn K mainGlobals "tuple" = some none)
    (z_list : PySem.W.nsIn K mainGlobals "list" = some none)
    (z_zip : PySem.W.nsIn K mainGlobals "zip" = some none)
    (z_enumerate : PySem.W.nsIn K mainGlobals "enumerate" = some none)
    (z_range : PySem.W.nsIn K mainGlobals "range" = some none)
    (z_max : PySem.W.nsIn K mainGlobals "max" = some none)
    (z_isinstance : PySem.W.nsIn K mainGlobals "isinstance" = some none)
    (z_sorted : PySem.W.nsIn K mainGlobals "sorted" = some none)
    : ∃ fd : FuncData, (∀ (s : Shared) (v : Value), BindsTo s fd ⟨[v], []⟩ [("script", v)]) ∧ ∀ base : Heap, K.In base → base.Ns mainGlobals mg → FnOk l.prog w K mg base CX0 6 fa fd ["script"] (spLaw K) := by
  have e := hfa.symm.trans (PySem.W.mg_of X G a32)
  cases e
  subst eD
  subst eO
  have T : Txt K mg tD tO := ⟨PySem.W.mg_of X G gD, PySem.W.mg_of X G gO, nD, nO, nE, PySem.W.mg_none_of X G z_len, PySem.W.mg_none_of X G z_int, PySem.W.mg_none_of X G z_bool, PySem.W.mg_none_of X G z_str, PySem.W.mg_none_of X G z_tuple, PySem.W.mg_none_of X G z_list, PySem.W.mg_none_of X G z_zip, PySem.W.mg_none_of X G z_enumerate, PySem.W.mg_none_of X G z_range, PySem.W.mg_none_of X G z_max, PySem.W.mg_none_of X G z_isinstance, PySem.W.mg_none_of X G z_sorted⟩
  have F := fun_mk (st := s_law) l32 c32 k32
  exact ⟨_, fun s v => .of_eq rfl, fun base _ _ => fn_all T F (at_cells_of X G a0 l0 c0 k0) (at_agree X G a1 l1 c1 k1) (at_within X G a2 l2 c2 k2) (at_joined X G a3 l3 c3 k3) (at_freed X G a4 l4 c4 k4) (at_kept_at X G a5 l5 c5 k5) (at_empty_layer X G a6 l6 c6 k6) (at_filled X G a7 l7 c7 k7) (at_layer_order X G a8 l8 c8 k8) (at_press X G a9 l9 c9 k9) (at__law_whole X G a10 l10 c10 k10) (at__law_cell X G a11 l11 c11 k11) (at__law_draw X G a12 l12 c12 k12) (at__law_size X G a13 l13 c13 k13) (at__law_inks X G a14 l14 c14 k14) (at__law_layer X G a15 l15 c15 k15) (at__law_other X G a16 l16 c16 k16) (at__law_second X G a17 l17 c17 k17) (at__law_close X G a18 l18 c18 k18) (at__law_layers X G a19 l19 c19 k19) (at__law_agree X G a20 l20 c20 k20) (at__law_pair X G a21 l21 c21 k21) (at__law_cells X G a22 l22 c22 k22) (at__law_chosen X G a23 l23 c23 k23) (at__law_alone X G a24 l24 c24 k24) (at__law_press X G a25 l25 c25 k25) (at__law_told X G a26 l26 c26 k26) (at__law_presses_right X G a27 l27 c27 k27) (at__law_before X G a28 l28 c28 k28) (at__law_ordered X G a29 l29 c29 k29) (at__law_key X G a30 l30 c30 k30) (at__law_sorted_right X G a31 l31 c31 k31)⟩
end Mi
open PySem PySem.W PyProof.Rows
set_option maxHeartbeats 0 in
theorem PySem.Challenge.cw_stampsheets_k01_layers_combined_holds : PySem.Challenge.rw_stampsheets_k01_layers_combined.Holds := by
  w_on; o_law; k_head; (case hw => w_witness2)
  k_fill
  refine L2.walk_of (l := PySem.Challenge.rw_stampsheets_k01_layers_combined) (n := 63) (k := 6) (x := "script") (CX := fun _ => L2.CX0) (sp := fun w => Mi.spLaw _) rfl (by decide) rfl ⟨rfl, by decide, by decide⟩ (fun w h Y => PySem.W.kIn_of Y) ?F (fun _ _ a ns hl _ hS => ⟨ns, hl, .cons ⟨a, rfl, hS⟩ .nil, fun v H2 _ hv => hv⟩) (fun _ _ _ _ _ h => h)
  case F =>
    intro w mg fa h KX G hmg
    refine' Mi.all_mk KX G hmg ?a0 ?l0 ?c0 ?k0 ?a1 ?l1 ?c1 ?k1 ?a2 ?l2 ?c2 ?k2 ?a3 ?l3 ?c3 ?k3 ?a4 ?l4 ?c4 ?k4 ?a5 ?l5 ?c5 ?k5 ?a6 ?l6 ?c6 ?k6 ?a7 ?l7 ?c7 ?k7 ?a8 ?l8 ?c8 ?k8 ?a9 ?l9 ?c9 ?k9 ?a10 ?l10 ?c10 ?k10 ?a11 ?l11 ?c11 ?k11 ?a12 ?l12 ?c12 ?k12 ?a13 ?l13 ?c13 ?k13 ?a14 ?l14 ?c14 ?k14 ?a15 ?l15 ?c15 ?k15 ?a16 ?l16 ?c16 ?k16 ?a17 ?l17 ?c17 ?k17 ?a18 ?l18 ?c18 ?k18 ?a19 ?l19 ?c19 ?k19 ?a20 ?l20 ?c20 ?k20 ?a21 ?l21 ?c21 ?k21 ?a22 ?l22 ?c22 ?k22 ?a23 ?l23 ?c23 ?k23 ?a24 ?l24 ?c24 ?k24 ?a25 ?l25 ?c25 ?k25 ?a26 ?l26 ?c26 ?k26 ?a27 ?l27 ?c27 ?k27 ?a28 ?l28 ?c28 ?k28 ?a29 ?l29 ?c29 ?k29 ?a30 ?l30 ?c30 ?k30 ?a31 ?l31 ?c31 ?k31 ?a32 ?l32 ?c32 ?k32 ?gD ?gO ?eD ?eO ?nD ?nO ?nE ?z_len ?z_int ?z_bool ?z_str ?z_tuple ?z_list ?z_zip ?z_enumerate ?z_range ?z_max ?z_isinstance ?z_sorted
    case a0 => k_is
    case l0 => k_is
    case c0 => k_is
    case k0 => k_is
    case a1 => k_is
    case l1 => k_is
    case c1 => k_is
    case k1 => k_is
    case a2 => k_is
    case l2 => k_is
    case c2 => k_is
    case k2 => k_is
    case a3 => k_is
    case l3 => k_is
    case c3 => k_is
    case k3 => k_is
    case a4 => k_is
    case l4 => k_is
    case c4 => k_is
    case k4 => k_is
    case a5 => k_is
    case l5 => k_is
    case c5 => k_is
    case k5 => k_is
    case a6 => k_is
    case l6 => k_is
    case c6 => k_is
    case k6 => k_is
    case a7 => k_is
    case l7 => k_is
    case c7 => k_is
    case k7 => k_is
    case a8 => k_is
    case l8 => k_is
    case c8 => k_is
    case k8 => k_is
    case a9 => k_is
    case l9 => k_is
    case c9 => k_is
    case k9 => k_is
    case a10 => k_is
    case l10 => k_is
    case c10 => k_is
    case k10 => k_is
    case a11 => k_is
    case l11 => k_is
    case c11 => k_is
    case k11 => k_is
    case a12 => k_is
    case l12 => k_is
    case c12 => k_is
    case k12 => k_is
    case a13 => k_is
    case l13 => k_is
    case c13 => k_is
    case k13 => k_is
    case a14 => k_is
    case l14 => k_is
    case c14 => k_is
    case k14 => k_is
    case a15 => k_is
    case l15 => k_is
    case c15 => k_is
    case k15 => k_is
    case a16 => k_is
    case l16 => k_is
    case c16 => k_is
    case k16 => k_is
    case a17 => k_is
    case l17 => k_is
    case c17 => k_is
    case k17 => k_is
    case a18 => k_is
    case l18 => k_is
    case c18 => k_is
    case k18 => k_is
    case a19 => k_is
    case l19 => k_is
    case c19 => k_is
    case k19 => k_is
    case a20 => k_is
    case l20 => k_is
    case c20 => k_is
    case k20 => k_is
    case a21 => k_is
    case l21 => k_is
    case c21 => k_is
    case k21 => k_is
    case a22 => k_is
    case l22 => k_is
    case c22 => k_is
    case k22 => k_is
    case a23 => k_is
    case l23 => k_is
    case c23 => k_is
    case k23 => k_is
    case a24 => k_is
    case l24 => k_is
    case c24 => k_is
    case k24 => k_is
    case a25 => k_is
    case l25 => k_is
    case c25 => k_is
    case k25 => k_is
    case a26 => k_is
    case l26 => k_is
    case c26 => k_is
    case k26 => k_is
    case a27 => k_is
    case l27 => k_is
    case c27 => k_is
    case k27 => k_is
    case a28 => k_is
    case l28 => k_is
    case c28 => k_is
    case k28 => k_is
    case a29 => k_is
    case l29 => k_is
    case c29 => k_is
    case k29 => k_is
    case a30 => k_is
    case l30 => k_is
    case c30 => k_is
    case k30 => k_is
    case a31 => k_is
    case l31 => k_is
    case c31 => k_is
    case k31 => k_is
    case a32 => k_is
    case l32 => k_is
    case c32 => k_is
    case k32 => k_is
    case gD => k_is
    case gO => k_is
    case z_len => k_is
    case z_int => k_is
    case z_bool => k_is
    case z_str => k_is
    case z_tuple => k_is
    case z_list => k_is
    case z_zip => k_is
    case z_enumerate => k_is
    case z_range => k_is
    case z_max => k_is
    case z_isinstance => k_is
    case z_sorted => k_is
    case eD => rfl
    case eO => rfl
    case nD => decide
    case nO => decide
    case nE => decide

