import PyProof.Rows.All
import Wide.All
import OpenK.AllK
import Wide.FinOn
import PySem.Challenge.RW_stampsheets_k06_errors_kept
import HandS.Base
import HandS.Call
import HandS.List
import HandS.Comp
import HandS.Ends
import HandS.Dict
import HandS.Iter
import HandS.Text
import HandS.Words
import HandS.Evl
import KE.GoesNew
import PyProof.EnumMake
import HandS.ForMost
import HandS.IsInst
import HandS.Replace
import HandS.SetFor
import HandS.ReplaceList
import PyProof.StrReplace2
import HandS.Steps
import KE.KEqSeq
import KE.SortKeyHeap
import KE.KSortKey
import HandS.SortKw
import HandS.Style
import HandS.TryOnly
import HandS.Gcd
import HandS.Wide
import HandS.IterVal
import HandS.DictComp
import KE.KOwnIter
import KE.GoesMore
import HandS.DeepEq
import KE.KOwnIn
import KE.KRevSl
import PyProof.SliceStr2
import HandS.Property
import HandS.TupAny
import HandS.Strs
import HandS.More
import HandS.RevRange
import HandS.Conv
import HandS.Deep
import PyProof.TupleOfSeq
import HandS.ForExc
import HandS.ExcCtx
import HandS.HotCalls
import HandS.ExcInit
import HandS.ExcField
import HandS.ExcIs
import KE.KExcIs
import HandS.ExcInitHot
import KE.KDictZip
import HandS.Nested
import HandS.EndTab
import KE.GoesEnum
import HandS.TupLe
import HandS.Small
import HandS.ExcOwn
import PyProof.EqKinds
import PyProof.InstEq
import HandS.ExcValue
set_option Elab.async false
set_option linter.all false
set_option maxRecDepth 100000
set_option maxHeartbeats 2000000
namespace Mi
open PySem PySem.Spec PyProof.Rows L2

/-! ### pairs that are known ahead, each in a new tuple -/
def ItP (ps : List (V × V)) : It :=
  ⟨fun i _ => i < ps.length, fun i H v H' => ∃ T x y, v = .ref T ∧ H T = none ∧ H' = upd H T (.tup [x, y]) ∧ ps[i]? = some (x, y), fun i _ => i = ps.length⟩
def YP (ps : List (V × V)) (i : Nat) (h0 : Heap) (v : Value) (h : Heap) : Prop :=
  ∃ T a b, v = .ref T ∧ h0.objs.size ≤ T ∧ (∃ x y, ps[i]? = some (x, y) ∧ RelV x a ∧ RelV y b) ∧ h.IsTuple T #[a, b]
theorem turn_pairs {P : Program} {w : World} {K : PySem.W.Frag} {tg : Expr} {I : Addr} {fp wr : List Addr} {n : Nat} {St : Nat → Heap → Prop} (ps : List (V × V)) (hn : ps.length = n)
    (mem : I ∈ fp) (obj : ∀ i h, St i h → ∀ b ∈ fp, ∃ o, h.get? b = some o ∧ ∀ v, o.data ≠ .cell v)
    (W : ∀ A : Around, A.handled = none → GoesN P w A tg I fp wr n (YP ps) St) (A0 : Around) (hA0 : A0.handled = none)
    (self : ∀ (A : Around) (i : Nat) (s : Shared) (Q : Value → Shared → Prop) (E : Value → Shared → Prop), St i s.heap → Q (.ref I) s → wpAny (model P w) A (pyIter (.ref I)) Q E s) : Turn P w K tg (ItP ps) fp I St where
  mem := mem
  obj := obj
  keep := (W A0 hA0).frame
  item := by
    intro X hP hw hK hc i pins s σ H E I hf st hg
    subst hP hw hK
    have W1 := W X.A (I.ok.hd hc)
    refine W1.goes i s _ E (by rw [← hn]; exact hg) st fun v h' tk hY st' hk htk => ?_
    obtain ⟨T, a, b, rfl, hT, ⟨x, y, hxy, ra, rb⟩, ht⟩ := hY
    have new : ObjOk X.prog X.w (upd H T (.tup [x, y])) h' T (.tup [x, y]) := ⟨by show 2 ≤ sizeLine; decide, [a, b], .cons ra (.cons rb .nil), ht⟩
    have I1 := I.turnedNew (t' := tk) (ch := fp) (fun c o hb q => hk c o (fun z => hb (W1.sub c z)) q) hf hT new
    refine ⟨.ref T, _, I1, rfl, ⟨T, x, y, rfl, I.hok.fresh hT, rfl, hxy⟩, st', fun c hcm => ?_⟩
    obtain ⟨o, ho, _⟩ := obj i _ st c hcm
    rw [upd_ne (Nat.ne_of_lt (Nat.lt_of_lt_of_le (Heap.lt_size ho) hT))]
    exact (hf c hcm).1
  done := by
    intro X hP hw hK hc i pins s σ H E I hf st hg
    subst hP hw hK
    have W1 := W X.A (I.ok.hd hc)
    have e : i = n := by rw [← hn]; exact hg
    subst e
    refine W1.stops s _ E st fun h' tk hk htk => ?_
    exact I.turnedL (t' := tk) (ch := fp) (fun c o hb q => hk c o (fun z => hb (W1.sub c z)) q) hf
  self := self

/-! ### texts, sign by sign -/
def sgn (c : Nat) : V := .str ⟨#[c]⟩
theorem text_obj {h : Heap} {a : Addr} {ty : String} {x : Str} {t : Tok} {i : Nat} (st : h.IsStrIter a ty x t i) : ∃ o, h.get? a = some o ∧ ∀ v, o.data ≠ .cell v := by
  obtain ⟨o, e, c, d⟩ := st
  exact ⟨o, e, fun v z => by rw [d] at z; cases z⟩

def zipS (x y : Str) : List (V × V) := (x.cps.toList.zip y.cps.toList).map fun p => (sgn p.1, sgn p.2)
theorem zipS_len (x y : Str) : (zipS x y).length = min x.cps.size y.cps.size := by simp [zipS]
theorem zipS_get {x y : Str} {i c d : Nat} (h1 : x.cps[i]? = some c) (h2 : y.cps[i]? = some d) : (zipS x y)[i]? = some (sgn c, sgn d) := by
  have e1 : x.cps.toList[i]? = some c := by simpa using h1
  have e2 : y.cps.toList[i]? = some d := by simpa using h2
  unfold zipS
  rw [List.getElem?_map, List.getElem?_zip_eq_some (z := (c, d)) |>.mpr ⟨e1, e2⟩]
  rfl
def iZipS (ta : TA) : TI := fun σ H R => ta σ H fun vs H1 => ∃ x y, vs = [.str x, .str y] ∧ R (ItP (zipS x y)) H1
theorem pi_zipS {X : Cx} {e e2 : Expr} {ta : TA} {p pos tpos : Pos} {elts : List Expr} {kk : Nat} (hg : Gl X "zip") (hm : X.mg "zip" = none) (ha : PA X [e, e2] ta)
    (hs : starEach [e, e2] X.env = (false, eval e X.env) :: starEach [e2] X.env := by rfl) (hpl : (backTo pos (starEach [e2] X.env)).any (·.1) = false := by rfl) (hc : X.calm = true := by rfl) :
    PI X (.Tuple elts kk tpos) (.Call (.Name "zip" p) [e, e2] [] pos) (iZipS ta) := by
  refine ⟨fun pins s σ H R I h => ?_⟩
  refine Call_ (ld_blt I hg hm PyProof.Rows.boot_zip (PyProof.Rows.callWith_type1 (thn (ha.run pos pins s σ H _ I h) fun us s1 ⟨vs, H1, I1, r1, q1⟩ => ?_) hs hpl))
  obtain ⟨x, y, ex, q⟩ := q1
  subst ex
  cases r1 with
  | cons r rr =>
    cases rr with
    | cons r' rr =>
      cases rr
      obtain ⟨t, rfl⟩ := r
      obtain ⟨u, rfl⟩ := r'
      refine zip_begins2 (begins_text x t) (begins_text y u) trivial trivial fun h' hz hTI hTO h1 h2 hsz hk => wpAny_pyIter_zip hz ?_
      have I2 : Inv X pins σ H1 { s1 with heap := h' } := I1.kept (t' := s1.toks) hk
      have i1 : h'.IsStrIter s1.heap.objs.size (strIterType x) x t 0 := ⟨_, h1, rfl, rfl⟩
      have i2 : h'.IsStrIter (s1.heap.objs.size + 1) (strIterType y) y u 0 := ⟨_, h2, rfl, rfl⟩
      refine ⟨s1.heap.objs.size + 4, [s1.heap.objs.size + 4, s1.heap.objs.size + 2, s1.heap.objs.size + 3, s1.heap.objs.size, s1.heap.objs.size + 1], _, ItP (zipS x y), H1, rfl, I2,
        turn_pairs (wr := [s1.heap.objs.size + 4, s1.heap.objs.size + 3, s1.heap.objs.size, s1.heap.objs.size + 1]) (zipS x y) (zipS_len x y) (by simp) (St := fun i h => IsZip h (s1.heap.objs.size + 4) (s1.heap.objs.size + 2) (s1.heap.objs.size + 3) .none ∧ IsTupOf2 h (s1.heap.objs.size + 2) (.ref s1.heap.objs.size) (.ref (s1.heap.objs.size + 1)) ∧ (∃ a1 a2, IsTupOf2 h (s1.heap.objs.size + 3) a1 a2) ∧ h.IsStrIter s1.heap.objs.size (strIterType x) x t i ∧ h.IsStrIter (s1.heap.objs.size + 1) (strIterType y) y u i) ?_ (fun A hA => ?_) X.A (I1.ok.hd hc) (fun A i s Q E st h => wpAny_pyIter_zip st.1 h),
        ⟨hz, hTI, ⟨_, _, hTO⟩, i1, i2⟩, fun c hcm => ?_, q⟩
      · rintro i h ⟨z1, z2, ⟨_, _, z3⟩, z4, z5⟩ b hb
        have e' : b = s1.heap.objs.size + 4 ∨ b = s1.heap.objs.size + 2 ∨ b = s1.heap.objs.size + 3 ∨ b = s1.heap.objs.size ∨ b = s1.heap.objs.size + 1 := by simpa using hb
        rcases e' with q | q | q | q | q
        · rw [q]; exact ⟨_, z1, fun v q => nomatch q⟩
        · rw [q]; exact ⟨_, z2, fun v q => nomatch q⟩
        · rw [q]; exact ⟨_, z3, fun v q => nomatch q⟩
        · rw [q]; exact text_obj z4
        · rw [q]; exact text_obj z5
      · have D1 := Draws.text (prog := X.prog) (w := X.w) (A := A.in1) hA s1.heap.objs.size x t
        have D2 := Draws.text (prog := X.prog) (w := X.w) (A := A.in1) hA (s1.heap.objs.size + 1) y u
        have S : ZipSep2 (s1.heap.objs.size + 4) (s1.heap.objs.size + 2) (s1.heap.objs.size + 3) s1.heap.objs.size (s1.heap.objs.size + 1) [s1.heap.objs.size] [s1.heap.objs.size + 1] :=
          zip_sep2 (N := s1.heap.objs.size) (fp1 := []) (fp2 := []) (fun _ h => nomatch h) (fun _ h => nomatch h)
        refine (GoesN.zip2 S D1 D2).mono fun i h0 v h _ ⟨T, a, b, ev, hT, ⟨c, u1, hc1, ea⟩, ⟨d, u2, hd1, eb⟩, ht⟩ => ⟨T, a, b, ev, hT, ⟨sgn c, sgn d, zipS_get hc1 hd1, ⟨u1, ea⟩, ⟨u2, eb⟩⟩, ht⟩
      · have e' : c = s1.heap.objs.size + 4 ∨ c = s1.heap.objs.size + 2 ∨ c = s1.heap.objs.size + 3 ∨ c = s1.heap.objs.size ∨ c = s1.heap.objs.size + 1 := by simpa using hcm
        have hle : s1.heap.objs.size ≤ c := by
          rcases e' with z | z | z | z | z
          · rw [z]; exact Nat.le_add_right _ _
          · rw [z]; exact Nat.le_add_right _ _
          · rw [z]; exact Nat.le_add_right _ _
          · rw [z]; exact Nat.le_refl _
          · rw [z]; exact Nat.le_add_right _ _
        exact I1.fpOk hle (I1.hok.fresh hle)

def enumS (x : Str) : List (V × V) := x.cps.toList.zipIdx.map fun p => (.int (p.2 : Int), sgn p.1)
theorem enumS_len (x : Str) : (enumS x).length = x.cps.size := by simp [enumS]
theorem enumS_get {x : Str} {i c : Nat} (h1 : x.cps[i]? = some c) : (enumS x)[i]? = some (.int (i : Int), sgn c) := by
  have e1 : x.cps.toList[i]? = some c := by simpa using h1
  unfold enumS
  rw [List.getElem?_map, List.getElem?_zipIdx, e1]
  simp
def iEnumS (ta : TA) : TI := fun σ H R => ta σ H fun vs H1 => ∃ x, vs = [.str x] ∧ R (ItP (enumS x)) H1
theorem pi_enumS {X : Cx} {e : Expr} {ta : TA} {p pos tpos : Pos} {elts : List Expr} {kk : Nat} (hg : Gl X "enumerate") (hm : X.mg "enumerate" = none) (ha : PA X [e] ta) (hs : starEach [e] X.env = [(false, eval e X.env)] := by rfl) (hc : X.calm = true := by rfl) :
    PI X (.Tuple elts kk tpos) (.Call (.Name "enumerate" p) [e] [] pos) (iEnumS ta) := by
  refine ⟨fun pins s σ H R I h => ?_⟩
  refine Call_ (ld_blt I hg hm boot_enumerate (PyProof.Rows.callWith_type1 (thn (ha.run pos pins s σ H _ I h) fun us s1 ⟨vs, H1, I1, r1, q1⟩ => ?_) hs rfl))
  obtain ⟨x, ex, q⟩ := q1
  subst ex
  cases r1 with
  | cons r rr =>
    cases rr
    obtain ⟨t, rfl⟩ := r
    refine call_enumerate_str fun h' he hit hsz hk => wpAny_pyIter_enum he ?_
    have I2 : Inv X pins σ H1 { s1 with heap := h' } := I1.kept (t' := s1.toks) hk
    refine ⟨s1.heap.objs.size + 1, [s1.heap.objs.size + 1, s1.heap.objs.size], _, ItP (enumS x), H1, rfl, I2,
      turn_pairs (wr := [s1.heap.objs.size + 1, s1.heap.objs.size]) (enumS x) (enumS_len x) (by simp) (St := fun i h => (∃ old, IsEnum h (s1.heap.objs.size + 1) s1.heap.objs.size (0 + (i : Int)) old) ∧ h.IsStrIter s1.heap.objs.size (strIterType x) x t i) ?_ (fun A hA => ?_) X.A (I1.ok.hd hc) (fun A i s Q E st h => let ⟨⟨_, he⟩, _⟩ := st; wpAny_pyIter_enum he h), ⟨⟨.none, he⟩, hit⟩, fun c hcm => ?_, q⟩
    · rintro i h ⟨⟨_, z1⟩, z2⟩ b hb
      have e' : b = s1.heap.objs.size + 1 ∨ b = s1.heap.objs.size := by simpa using hb
      rcases e' with q | q
      · rw [q]; exact ⟨_, z1, fun v q => nomatch q⟩
      · rw [q]; exact text_obj z2
    · have D1 := Draws.text (prog := X.prog) (w := X.w) (A := A.in1) hA s1.heap.objs.size x t
      refine (GoesN.enumFrom 0 D1 (s1.heap.objs.size + 1) (Nat.succ_ne_self _) (by simp) (by simp)).mono fun i h0 v h _ ⟨T, u, b, ev, hT, ⟨c, u1, hc1, eb⟩, ht⟩ => ⟨T, _, b, ev, hT, ⟨.int (i : Int), sgn c, enumS_get hc1, ⟨u, by rw [Int.zero_add]⟩, ⟨u1, eb⟩⟩, ht⟩
    · have e' : c = s1.heap.objs.size + 1 ∨ c = s1.heap.objs.size := by simpa using hcm
      have hle : s1.heap.objs.size ≤ c := by
        rcases e' with z | z
        · rw [z]; exact Nat.le_add_right _ _
        · rw [z]; exact Nat.le_refl _
      exact I1.fpOk hle (I1.hok.fresh hle)
end Mi

set_option maxHeartbeats 2000000
namespace Mi
open PySem PySem.Spec PyProof.Rows L2 Evl

/-! ### a def of the text that keeps its promise, as its callers see it -/
structure Has (P : Program) (w : World) (K : PySem.W.Frag) (mg : Str → Option Value) (base : Heap) (k : Nat) (x : Str) (ps : List Str) (sp : Sp) : Prop where
  ex : ∃ f fd, mg x = some (.ref f) ∧ PySem.W.keepIn K (.ref f) = true ∧ FnOk P w K mg base CX0 k f fd ps sp ∧ Binds K fd ps [] ∧
    (ps.length = 1 → ∀ (s : Shared) (w1 : Value), BindsTo s fd ⟨[], ps.zip [w1]⟩ (ps.zip [w1])) ∧
    (∀ p q, ps = [p, q] → ∀ (s : Shared) (w1 w2 : Value), BindsTo s fd ⟨[], [q, p].zip [w1, w2]⟩ ([p, q].zip [w2, w1]))
section
variable {X : Cx} {k : Nat} {ps : List Str} {sp : Sp} {E : XK} {x : Str} {p pos : Pos} {e : Expr} {es : List Expr} {t : TA}
theorem pe_callH (F : Has X.prog X.w X.K X.mg X.base k x ps sp) (hr : Room k X.A) (ha : PA X (e :: es) t) (hg : Gl X x := by rfl) (hdb : (x == ("__debug__" : Str)) = false := by decide)
    (he : starEach (e :: es) X.env = (false, eval e X.env) :: starEach es X.env := by rfl) (hpl : (backTo pos (starEach es X.env)).any (·.1) = false := by rfl) :
    PE X (.Call (.Name x p) (e :: es) [] pos) (tCall sp [] E0 t) := by
  obtain ⟨f, fd, hm, hk, F, hb, _⟩ := F.ex
  exact pe_call F hr hg hm hk hb .nil pass0 ha hdb he hpl
/-- f(q=.., p=..): both parameters by name, in the other order; f(p=..) -/
def tCall2 (sp : Sp) (t1 t2 : TE) : TE := fun σ H Q => tCons t1 (tCons t2 tNil) σ H fun vs H2 => ∃ v1 v2, vs = [v1, v2] ∧ sp [v2, v1] H2 Q E0
theorem pe_callH2 {a b : Str} {e1 e2 : Expr} {t1 t2 : TE} {k1 k2 : Pos} (F : Has X.prog X.w X.K X.mg X.base k x [a, b] sp) (hr : Room k X.A) (h1 : PE X e1 t1) (h2 : PE X e2 t2) (hg : Gl X x := by rfl) (hdb : (x == ("__debug__" : Str)) = false := by decide)
    (hall : (backToKw pos (keywordEach [⟨some b, e1, k1⟩, ⟨some a, e2, k2⟩] X.env)).all (·.1.isSome) = true := by rfl)
    (hks : (backToKw pos (keywordEach [⟨some b, e1, k1⟩, ⟨some a, e2, k2⟩] X.env)).filterMap (·.1) = [b, a] := by rfl)
    (hpl : (backToKw pos (keywordEach [⟨some b, e1, k1⟩, ⟨some a, e2, k2⟩] X.env)).any (·.1.isNone) = false := by rfl) :
    PE X (.Call (.Name x p) [] [⟨some b, e1, k1⟩, ⟨some a, e2, k2⟩] pos) (tCall2 sp t1 t2) := by
  obtain ⟨f, fd, hm, hk, F, _, _, hb2⟩ := F.ex
  have hkw : PK X [⟨some b, e1, k1⟩, ⟨some a, e2, k2⟩] (tCons t1 (tCons t2 tNil)) := pk_cons h1 (pk_cons h2 pk_nil)
  refine ⟨fun pins s σ H Q I h => ?_⟩
  refine wpAny_Call_Name_kw (ld_glob I hg hm ?_ hdb)
  refine PySem.W.callWith_KW0 (h₀ := X.base) I.ok.mod.kin hk hall (thn (hkw.run pos pins s σ H _ I h) fun ws s2 ⟨zs, H2, I2, rz, v1, v2, ez, q2⟩ => ⟨I2.kIn, ?_⟩) hpl
  rw [hks]
  subst ez
  obtain ⟨w1, w2, rfl, r1, r2⟩ := vals2 rz
  refine wpAny_call (codeAny_mono (F.run X.A X.stack s2 H2 ⟨[], [b, a].zip [w1, w2]⟩ [w2, w1] [v2, v1] Q E0 hr I2.env0 (hb2 a b rfl s2 w1 w2) (.cons r2 (.cons r1 .nil)) q2) fun r s' hq => ?_)
  cases r with
  | error e => exact pass0 pins σ H2 s2 e s' I2 hq
  | ok fl =>
    cases fl with
    | ret u => exact I2.after hq
    | next => exact False.elim hq
    | brk => exact False.elim hq
    | cont => exact False.elim hq
def tCall1 (sp : Sp) (t1 : TE) : TE := fun σ H Q => tCons t1 tNil σ H fun vs H2 => ∃ v1, vs = [v1] ∧ sp [v1] H2 Q E0
theorem pe_callH1 {a : Str} {e1 : Expr} {t1 : TE} {k1 : Pos} (F : Has X.prog X.w X.K X.mg X.base k x [a] sp) (hr : Room k X.A) (h1 : PE X e1 t1) (hg : Gl X x := by rfl) (hdb : (x == ("__debug__" : Str)) = false := by decide)
    (hall : (backToKw pos (keywordEach [⟨some a, e1, k1⟩] X.env)).all (·.1.isSome) = true := by rfl)
    (hks : (backToKw pos (keywordEach [⟨some a, e1, k1⟩] X.env)).filterMap (·.1) = [a] := by rfl)
    (hpl : (backToKw pos (keywordEach [⟨some a, e1, k1⟩] X.env)).any (·.1.isNone) = false := by rfl) :
    PE X (.Call (.Name x p) [] [⟨some a, e1, k1⟩] pos) (tCall1 sp t1) := by
  obtain ⟨f, fd, hm, hk, F, _, hb1, _⟩ := F.ex
  have hkw : PK X [⟨some a, e1, k1⟩] (tCons t1 tNil) := pk_cons h1 pk_nil
  refine ⟨fun pins s σ H Q I h => ?_⟩
  refine wpAny_Call_Name_kw (ld_glob I hg hm ?_ hdb)
  refine PySem.W.callWith_KW0 (h₀ := X.base) I.ok.mod.kin hk hall (thn (hkw.run pos pins s σ H _ I h) fun ws s2 ⟨zs, H2, I2, rz, v1, ez, q2⟩ => ⟨I2.kIn, ?_⟩) hpl
  rw [hks]
  subst ez
  obtain ⟨w1, rfl, r1⟩ := vals1 rz
  refine wpAny_call (codeAny_mono (F.run X.A X.stack s2 H2 ⟨[], [a].zip [w1]⟩ [w1] [v1] Q E0 hr I2.env0 (hb1 rfl s2 w1) (.cons r1 .nil) q2) fun r s' hq => ?_)
  cases r with
  | error e => exact pass0 pins σ H2 s2 e s' I2 hq
  | ok fl =>
    cases fl with
    | ret u => exact I2.after hq
    | next => exact False.elim hq
    | brk => exact False.elim hq
    | cont => exact False.elim hq
end

/-! ### text * int -/
def reps (x : Str) (n : Nat) : Str := ⟨((List.replicate n x.cps.toList).flatten).toArray⟩
theorem reps_toList (x : Str) (n : Nat) : (reps x n).cps.toList = (List.replicate n x.cps.toList).flatten := rfl
theorem reps_len (x : Str) (n : Nat) : (reps x n).length = n * x.length := by
  show ((List.replicate n x.cps.toList).flatten).toArray.size = n * x.cps.size
  simp
theorem str_ext {x y : Str} (h : x.cps.toList = y.cps.toList) : x = y := by
  cases x; cases y
  simp only [Str.mk.injEq]
  exact Array.toList_inj.mp h
theorem foldl_reps (x : Array Nat) : ∀ (n : Nat) (acc : Array Nat), ((List.replicate n x).foldl (· ++ ·) acc).toList = acc.toList ++ (List.replicate n x.toList).flatten
  | 0, acc => by simp
  | n + 1, acc => by
    rw [List.replicate_succ, List.foldl_cons, foldl_reps x n (acc ++ x), List.replicate_succ, List.flatten_cons]
    simp
def rMulS : R2 := fun x y H Q => ∃ (z : Str) (n : Nat), x = .str z ∧ y = .int (n : Int) ∧ n ≤ 1000 ∧ z.length ≤ 1000 ∧ Q (.str (reps z n)) H
theorem op_mulS {X : Cx} : OpR X (binaryOp .Mult) rMulS := by
  intro pins s σ H x y v u Q I rx ry h
  obtain ⟨z, n, rfl, rfl, hn, hz, q⟩ := h
  obtain ⟨t, rfl⟩ := rx
  obtain ⟨t', rfl⟩ := ry
  have fin : ∀ (w : Str) (tk : Tok) (k : Nat), w = reps z n → EP X pins σ Q (.str w tk) { s with toks := k } := fun w tk k e => ⟨.str (reps z n), H, I.tok _, ⟨tk, by rw [e]⟩, q⟩
  refine PySem.P.mul_str ?_ (fun h1 h2 => ?_) (fun h1 h2 => ?_) ?_
  · rw [decide_eq_false (by omega), decide_eq_false (by omega)]; rfl
  · have : (1000 : Int) ≤ (2 ^ 63 - 1) / (n : Int) := by
      have h3 : (0 : Int) < n := by omega
      refine (Int.le_ediv_iff_mul_le h3).mpr ?_
      omega
    omega
  · unfold PySem.Builtin.Str.tooLong sizeLine
    have : z.length * (n : Int).toNat ≤ 1000 * 1000 := Nat.mul_le_mul hz (by omega)
    exact decide_eq_false (by omega)
  · by_cases h1 : (n : Int) < 1
    · rw [if_pos h1]
      have e : n = 0 := by omega
      subst e
      exact ⟨by decide, fin _ _ _ (str_ext (by rw [reps_toList]; rfl))⟩
    · rw [if_neg h1]
      by_cases h2 : (((n : Int) == 1 || z.length == 0) = true)
      · rw [if_pos h2]
        refine ⟨.str (reps z n), H, I, ⟨t, ?_⟩, q⟩
        congr 1
        refine str_ext ?_
        rw [reps_toList]
        simp only [Bool.or_eq_true, beq_iff_eq] at h2
        rcases h2 with h2 | h2
        · have e : n = 1 := by omega
          subst e
          simp
        · have e : z.cps.toList = [] := by
            have h3 : z.cps.size = 0 := h2
            simpa using h3
          rw [e]
          simp
      · rw [if_neg h2]
        have e : (⟨(List.replicate (n : Int).toNat z.cps).foldl (· ++ ·) #[]⟩ : Str) = reps z n := str_ext (by
          rw [reps_toList]
          have := foldl_reps z.cps n #[]
          simpa using this)
        refine ⟨?_, fin _ _ _ e⟩
        rw [e]
        have h3 := reps_len z n
        have h4 : n * z.length ≤ 1000 * 1000 := Nat.mul_le_mul hn hz
        rw [sizeLine_eq]
        omega

/-! ### text.replace(A, B), A and B names of the module that hold two texts -/
def tRepG (to : TE) (y z : Str) : TE := fun σ H Q => to σ H fun v H1 => ∃ x, v = .str x ∧ x.length + (x.length + 1) * z.length ≤ 16777216 ∧ Q (.str (Txt.replace x y z)) H1
theorem pe_repG {X : Cx} {o : Expr} {to : TE} {a b y z : Str} {u v : Tok} {pa pb apos pos : Pos} (ho : PE X o to) (ma : X.mg a = some (.str y u)) (mb : X.mg b = some (.str z v)) (hu : u ≠ 0) (hv : v ≠ 0) (huv : u ≠ v) (hyz : (y == z) = false)
    (ga : Gl X a := by rfl) (gb : Gl X b := by rfl) (da : (a == ("__debug__" : Str)) = false := by decide) (db : (b == ("__debug__" : Str)) = false := by decide)
    (hst : starEach [.Name a pa, .Name b pb] X.env = [(false, eval (.Name a pa) X.env), (false, eval (.Name b pb) X.env)] := by rfl)
    (hbase : attributeBase o "replace" X.env (eval o X.env) = eval o X.env := by rfl) (hline : (apos.endLine == pos.line) = true := by rfl) :
    PE X (.Call (.Attribute o "replace" apos) [.Name a pa, .Name b pb] [] pos) (tRepG to y z) := by
  refine ⟨fun pins s σ H Q I h => ?_⟩
  refine PySem.Call_method2 hbase hst hline (thn (ho.run pins s σ H _ I h) fun v' s1 q => ?_)
  obtain ⟨v', H1, I1, r1, x, e1, hb, q⟩ := q
  subst e1
  obtain ⟨tx, e2⟩ := r1
  subst e2
  refine ⟨"str", _, PySem.F.plainAttrs_str, PySem.F.slot_str_replace, PySem.F.type_str_replace, typeIs_str _ _ _, (fun _ e => nomatch e), Calls.callWith_builtin rfl (Calls.evalArgs_plain (Calls.spliced_cons ?_))⟩
  refine ld_glob I1 ga ma (Calls.spliced_cons (ld_glob I1 gb mb (Calls.spliced_nil ?_) db)) da
  exact PySem.SC.replace hu hv huv hyz hb fun t' k => ⟨.str (Txt.replace x y z), H1, I1.tok k, ⟨t', rfl⟩, q⟩
theorem replL_one (a b : Nat) : ∀ l : List Nat, StrLaws.replL [a] [b] l = l.map fun c => if c = a then b else c
  | [] => StrLaws.replL_nil
  | c :: r => by
    by_cases h : c = a
    · subst h
      rw [StrLaws.replL_hit (by simp) (by simp)]
      show [b] ++ StrLaws.replL [c] [b] r = _
      rw [replL_one c b r]
      simp
    · rw [StrLaws.replL_miss (by simpa using h), replL_one a b r]
      simp [h]

/-! ### texts.count(text) -/
def rCntS (K : PySem.W.Frag) : V → List V → Hp → VK → Prop := fun x xs H Q => ∃ (p : Addr) (ys : List Str) (z : Str), x = .ref p ∧ xs = [.str z] ∧ SqL K H p (ys.map V.str) ∧ Q (.int (ys.count z : Nat)) H
def eqs (z : Str) : Value → Bool
  | .str y _ => y == z
  | _ => false
theorem eqs_count (z : Str) : ∀ {ys : List Str} {its : List Value}, Vals (ys.map V.str) its → its.countP (eqs z) = ys.count z
  | [], _, .nil => rfl
  | y :: ys, _, .cons q t => by
    obtain ⟨tk, rfl⟩ := q
    rw [List.countP_cons, List.count_cons, eqs_count z t]
    rfl
theorem eqs_at (z : Str) (t : Tok) (A : Around) (s : Shared) : ∀ {ys : List Str} {its : List Value}, Vals (ys.map V.str) its → ∀ y ∈ its, SeqAt.EqAt A s y (.str z t) (eqs z y)
  | [], _, .nil, _, h => nomatch h
  | x :: ys, _, .cons q r, y, h => by
    rcases List.mem_cons.mp h with e | h
    · subst e
      obtain ⟨tk, rfl⟩ := q
      exact SeqAt.EqAt.str_str x tk z t
    · exact eqs_at z t A s r y h
theorem mt_scount {X : Cx} : MtR X "list.count" (rCntS X.K) := by
  intro pins s σ H x xs v us Q I rx rxs h
  obtain ⟨p, ys, z, rfl, rfl, hs, q⟩ := h
  cases rx
  obtain ⟨u, rfl, ru⟩ := rxs.one
  obtain ⟨t, rfl⟩ := ru
  obtain ⟨its, rv, ⟨⟨cls, dd, data, sl⟩, n, ho, hc, hdn, hd⟩, hlen⟩ := I.list hs
  simp only at hc hd
  subst hc hd
  refine call_meets PySem.F.slot_list_count ⟨_, ho, rfl⟩ PySem.F.entry_list_count (PySem.F.args_list_count_2 _ _)
    (SeqAt.list_countAt p its.toArray n dd sl (.str z t) (eqs z)) ⟨ho, fun y hy => eqs_at z t _ _ rv y (by simpa using hy), ?_⟩
  have ec : its.toArray.toList.countP (eqs z) = ys.count z := eqs_count z rv
  refine ⟨.int (ys.count z : Nat), H, I.tok _, ⟨s.toks, ?_⟩, q⟩
  show Value.int ((its.toArray.toList.countP (eqs z) : Nat) : Int) s.toks = Value.int ((ys.count z : Nat) : Int) s.toks
  rw [ec]
end Mi

set_option maxHeartbeats 2000000
namespace Mi
open PySem PySem.Spec PyProof.Rows L2 Evl

/-! ### what a value is: a flat one, a list that is read, a tracked list, a tuple -/
structure MP where
  p : Hp → V → Prop
  m : ∀ {H H' : Hp} {x : V}, Ex H H' → p H x → p H' x
inductive Dd where
  | D
  | P (q : MP)
  | v (x : V)
  | l (xs : List V)
  | n (xs : List V)
  | u (xs : List V)
  | L (ds : List Dd)
  | N (ds : List Dd)
  | U (ds : List Dd)
mutual
def Is (K : PySem.W.Frag) (H : Hp) : Dd → V → Prop
  | .D, y => ∃ p kvs, y = .ref p ∧ H p = some (.dK kvs)
  | .P q, y => q.p H y
  | .v x, y => y = x
  | .l xs, y => ∃ p, y = .ref p ∧ SqL K H p xs
  | .n xs, y => ∃ p, y = .ref p ∧ H p = some (.lst xs)
  | .u xs, y => ∃ p, y = .ref p ∧ SqT K H p xs
  | .L ds, y => ∃ p vs, y = .ref p ∧ SqL K H p vs ∧ IsE K H ds vs
  | .N ds, y => ∃ p vs, y = .ref p ∧ H p = some (.lst vs) ∧ IsE K H ds vs
  | .U ds, y => ∃ p vs, y = .ref p ∧ SqT K H p vs ∧ IsE K H ds vs
def IsE (K : PySem.W.Frag) (H : Hp) : List Dd → List V → Prop
  | [], vs => vs = []
  | d :: ds, vs => ∃ x r, vs = x :: r ∧ Is K H d x ∧ IsE K H ds r
end
abbrev Dd.i (i : Int) : Dd := .v (.int i)
abbrev Dd.s (x : Str) : Dd := .v (.str x)
abbrev Dd.b (b : Bool) : Dd := .v (.bl b)
abbrev vis (ns : List Int) : List V := ns.map V.int
abbrev vss (ys : List Str) : List V := ys.map V.str
section
variable {K : PySem.W.Frag} {H H' : Hp} {d : Dd} {x y : V}
mutual
theorem Is.mono (e : Ex H H') : ∀ {d : Dd} {x : V}, Is K H d x → Is K H' d x
  | .D, _, h => by obtain ⟨p, kvs, e1, q⟩ := h; exact ⟨p, kvs, e1, e p _ q⟩
  | .P q, _, h => q.m e h
  | .v _, _, h => h
  | .l _, _, h => by obtain ⟨p, e1, q⟩ := h; exact ⟨p, e1, ex_l e q⟩
  | .n _, _, h => by obtain ⟨p, e1, q⟩ := h; exact ⟨p, e1, e p _ q⟩
  | .u _, _, h => by obtain ⟨p, e1, q⟩ := h; exact ⟨p, e1, ex_t e q⟩
  | .L _, _, h => by obtain ⟨p, vs, e1, q, r⟩ := h; exact ⟨p, vs, e1, ex_l e q, IsE.mono e r⟩
  | .N _, _, h => by obtain ⟨p, vs, e1, q, r⟩ := h; exact ⟨p, vs, e1, e p _ q, IsE.mono e r⟩
  | .U _, _, h => by obtain ⟨p, vs, e1, q, r⟩ := h; exact ⟨p, vs, e1, ex_t e q, IsE.mono e r⟩
theorem IsE.mono (e : Ex H H') : ∀ {ds : List Dd} {vs : List V}, IsE K H ds vs → IsE K H' ds vs
  | [], _, h => h
  | _ :: _, _, h => by obtain ⟨x, r, e1, a, b⟩ := h; exact ⟨x, r, e1, Is.mono e a, IsE.mono e b⟩
end
theorem Is.n2l {xs : List V} (h : Is K H (.n xs) x) : Is K H (.l xs) x := by
  obtain ⟨p, e1, q⟩ := h; exact ⟨p, e1, sq_of q⟩
end
def IsAll (K : PySem.W.Frag) (H : Hp) (ds : List Dd) (vs : List V) : Prop := Paired (fun d v => Is K H d v) ds vs

/-! ### what evaluates to what -/
def Er (K : PySem.W.Frag) (te : TE) (σ : L2.St) (H : Hp) (d : Dd) : Prop := ∀ H1, Ex H H1 → ∀ Q : VK, (∀ v H2, Ex H1 H2 → Is K H2 d v → Q v H2) → te σ H1 Q
def Era (K : PySem.W.Frag) (ta : TA) (σ : L2.St) (H : Hp) (ds : List Dd) : Prop := ∀ H1, Ex H H1 → ∀ Q : List V → Hp → Prop, (∀ vs H2, Ex H1 H2 → IsAll K H2 ds vs → Q vs H2) → ta σ H1 Q
def Ro (K : PySem.W.Frag) (r : R2) (d1 d2 d : Dd) : Prop := ∀ x y H1, Is K H1 d1 x → Is K H1 d2 y → ∀ Q : VK, (∀ v H2, Ex H1 H2 → Is K H2 d v → Q v H2) → r x y H1 Q
def Rc (K : PySem.W.Frag) (r : List V → Hp → VK → Prop) (ds : List Dd) (d : Dd) : Prop := ∀ vs H1, IsAll K H1 ds vs → ∀ Q : VK, (∀ v H2, Ex H1 H2 → Is K H2 d v → Q v H2) → r vs H1 Q
section
variable {K : PySem.W.Frag} {σ : L2.St} {H H' : Hp} {te ta tb tc : TE} {t u : TT} {tr : TA} {d d1 d2 d' : Dd} {x y : V} {r : R2}
theorem IsAll.mono (e : Ex H H') : ∀ {ds : List Dd} {vs : List V}, IsAll K H ds vs → IsAll K H' ds vs
  | _, _, .nil => .nil
  | _, _, .cons a b => .cons (a.mono e) (IsAll.mono e b)
theorem Er.mono (e : Ex H H') (h : Er K te σ H d) : Er K te σ H' d := fun H1 a Q q => h H1 (e.trans a) Q q
theorem Er.to (h : Er K te σ H d) (e : d = d') : Er K te σ H d' := e ▸ h
theorem Er.n2l {xs : List V} (h : Er K te σ H (.n xs)) : Er K te σ H (.l xs) := fun H1 a Q q => h H1 a Q fun v H2 e z => q v H2 e z.n2l
theorem er_var {i : Nat} (h : σ[i]? = some (some x)) (hd : Is K H d x) : Er K (tVar i) σ H d := fun H1 e _ q => ⟨x, h, q x H1 (Ex.refl H1) (hd.mono e)⟩
theorem er_v {i : Nat} (h : σ[i]? = some (some x)) : Er K (tVar i) σ H (.v x) := er_var h rfl
theorem er_c : Er K (tC x) σ H (.v x) := fun H1 _ _ q => q x H1 (Ex.refl H1) rfl
theorem er_op (ha : Er K ta σ H d1) (hb : Er K tb σ H d2) (hr : Ro K r d1 d2 d) : Er K (tOp r ta tb) σ H d := fun H1 e Q q =>
  ha H1 e _ fun v1 H2 e2 z1 => hb H2 (e.trans e2) _ fun v2 H3 e3 z2 => hr v1 v2 H3 (z1.mono e3) z2 Q fun v H4 e4 z => q v H4 ((e2.trans e3).trans e4) z
theorem era_nil : Era K tNil σ H [] := fun H1 _ _ q => q [] H1 (Ex.refl H1) .nil
theorem era_cons {ds : List Dd} (h : Er K ta σ H d) (hr : Era K tr σ H ds) : Era K (tCons ta tr) σ H (d :: ds) := fun H1 e _ q =>
  h H1 e _ fun v1 H2 e2 z1 => hr H2 (e.trans e2) _ fun vs H3 e3 z2 => q _ H3 (e2.trans e3) (.cons (z1.mono e3) z2)
theorem er_cb {rc : List V → Hp → VK → Prop} {ds : List Dd} (h : Era K tr σ H ds) (hr : Rc K rc ds d) : Er K (tCB rc tr) σ H d := fun H1 e Q q =>
  h H1 e _ fun vs H2 e2 z => hr vs H2 z Q fun v H3 e3 z3 => q v H3 (e2.trans e3) z3
theorem flat_all {vs : List V} {ws : List V} (h : IsAll K H (vs.map Dd.v) ws) : ws = vs := by
  induction vs generalizing ws with
  | nil => cases h; rfl
  | cons a r ih =>
    cases h with
    | cons h1 h2 =>
      rw [ih h2]
      have e : _ = a := h1
      rw [e]
theorem er_lst {vs : List V} (h : Era K tr σ H (vs.map Dd.v)) (hl : vs.length ≤ 100000) : Er K (tLst tr) σ H (.n vs) := fun H1 e _ q =>
  h H1 e _ fun ws H2 e2 z => by
    have ew := flat_all z
    subst ew
    exact ⟨sz_of hl, fun p hp => q _ _ (e2.trans (Ex.new hp)) ⟨p, rfl, upd_same⟩⟩
theorem er_tup {vs : List V} (h : Era K tr σ H (vs.map Dd.v)) (hl : vs.length ≤ 100000) : Er K (tTup tr) σ H (.u vs) := fun H1 e _ q =>
  h H1 e _ fun ws H2 e2 z => by
    have ew := flat_all z
    subst ew
    exact ⟨sz_of hl, fun p hp => q _ _ (e2.trans (Ex.new hp)) ⟨p, rfl, st_of upd_same⟩⟩

/-! ### operators -/
theorem ro_I0 {g : Int → Int → V} {i j : Int} : Ro K (rI0 g) (.v (.int i)) (.v (.int j)) (.v (g i j)) := by
  rintro _ _ H1 rfl rfl Q q
  exact ⟨i, j, rfl, rfl, q _ H1 (Ex.refl H1) rfl⟩
theorem ro_I {C : Int → Int → Prop} {g : Int → Int → V} {i j : Int} (hc : C i j) : Ro K (rI C g) (.v (.int i)) (.v (.int j)) (.v (g i j)) := by
  rintro _ _ H1 rfl rfl Q q
  exact ⟨i, j, rfl, rfl, hc, q _ H1 (Ex.refl H1) rfl⟩
theorem ro_eq (h : scal x y = true) : Ro K rEq (.v x) (.v y) (.v (.bl (decide (x = y)))) := by
  rintro _ _ H1 rfl rfl Q q
  exact ⟨h, q _ H1 (Ex.refl H1) rfl⟩
theorem ro_ne (h : scal x y = true) : Ro K rNe (.v x) (.v y) (.v (.bl (!decide (x = y)))) := by
  rintro _ _ H1 rfl rfl Q q
  exact ⟨h, q _ H1 (Ex.refl H1) rfl⟩
theorem ro_ixL {xs : List V} {i : Int} (h0 : 0 ≤ i) (h : xs[i.toNat]? = some x) : Ro K (rIxL K) (.l xs) (.v (.int i)) (.v x) := by
  rintro _ _ H1 ⟨p, rfl, hp⟩ rfl Q q
  have e : ((i.toNat : Nat) : Int) = i := Int.toNat_of_nonneg h0
  exact ⟨p, xs, i, x, rfl, rfl, hp, by rw [← e]; exact atI_nat h, q _ H1 (Ex.refl H1) rfl⟩
theorem ro_ixN {xs : List V} {i : Int} (h0 : 0 ≤ i) (h : xs[i.toNat]? = some x) : Ro K (rIxL K) (.n xs) (.v (.int i)) (.v x) := fun v w H1 a b => ro_ixL h0 h v w H1 a.n2l b
theorem ro_ixT {xs : List V} {i : Int} (h0 : 0 ≤ i) (h : xs[i.toNat]? = some x) : Ro K (rIxT K) (.u xs) (.v (.int i)) (.v x) := by
  rintro _ _ H1 ⟨p, rfl, hp⟩ rfl Q q
  have e : ((i.toNat : Nat) : Int) = i := Int.toNat_of_nonneg h0
  exact ⟨p, xs, i, x, rfl, rfl, hp, by rw [← e]; exact atI_nat h, q _ H1 (Ex.refl H1) rfl⟩
theorem ro_ixS {z : Str} {i : Int} {c : Nat} (hz : z.length ≤ 100000) (h0 : 0 ≤ i) (h : z.cps.toList[i.toNat]? = some c) : Ro K rIxS (.v (.str z)) (.v (.int i)) (.v (sgn c)) := by
  rintro _ _ H1 rfl rfl Q q
  have e : ((i.toNat : Nat) : Int) = i := Int.toNat_of_nonneg h0
  exact ⟨z, i, c, rfl, rfl, sz_of hz, by rw [← e]; exact atI_nat h, q _ H1 (Ex.refl H1) rfl⟩
def rAddS2 : R2 := fun x y H Q => ∃ i j, x = .str i ∧ y = .str j ∧ i.length + j.length ≤ sizeLine ∧ Q (.str (i ++ j)) H
theorem op_addS {X : Cx} : OpR X (binaryOp .Add) rAddS2 := op_add_str
theorem ro_addS {a b : Str} (h : a.length + b.length ≤ 100000) : Ro K rAddS2 (.v (.str a)) (.v (.str b)) (.v (.str (a ++ b))) := by
  rintro _ _ H1 rfl rfl Q q
  exact ⟨a, b, rfl, rfl, sz_of h, q _ H1 (Ex.refl H1) rfl⟩
theorem ro_mulS {a : Str} {n : Nat} (hn : n ≤ 1000) (ha : a.length ≤ 1000) : Ro K rMulS (.v (.str a)) (.v (.int (n : Int))) (.v (.str (reps a n))) := by
  rintro _ _ H1 rfl rfl Q q
  exact ⟨a, n, rfl, rfl, hn, ha, q _ H1 (Ex.refl H1) rfl⟩
theorem ro_cat {xs zs : List V} (h : xs.length + zs.length ≤ 100000) : Ro K rCat (.n xs) (.n zs) (.n (xs ++ zs)) := by
  rintro _ _ H1 ⟨p, rfl, hp⟩ ⟨p', rfl, hp'⟩ Q q
  exact ⟨p, p', xs, zs, rfl, rfl, hp, hp', sz_of h, fun l hl => q _ _ (Ex.new hl) ⟨l, rfl, upd_same⟩⟩
theorem ro_rep {xs : List V} {k : Nat} (h : xs.length * k ≤ 100000) (hk : k ≤ 100000) : Ro K rRep (.n xs) (.v (.int (k : Int))) (.n (List.replicate k xs).flatten) := by
  rintro _ _ H1 ⟨p, rfl, hp⟩ rfl Q q
  exact ⟨p, k, xs, rfl, rfl, hp, by omega, by omega, by rw [Int.toNat_natCast]; exact sz_of h, fun l hl => q _ _ (Ex.new hl) ⟨l, rfl, by rw [Int.toNat_natCast]; exact upd_same⟩⟩
theorem ro_inL {neg : Bool} {xs : List V} (hx : flatV x = true) (ha : xs.all flatV = true) : Ro K (rIn K neg) (.v x) (.l xs) (.v (.bl (if neg then !inV x xs else inV x xs))) := by
  rintro _ _ H1 rfl ⟨p, rfl, hp⟩ Q q
  exact ⟨p, xs, rfl, .inl hp, hx, ha, q _ H1 (Ex.refl H1) rfl⟩
theorem ro_inN {neg : Bool} {xs : List V} (hx : flatV x = true) (ha : xs.all flatV = true) : Ro K (rIn K neg) (.v x) (.n xs) (.v (.bl (if neg then !inV x xs else inV x xs))) := fun v w H1 a b => ro_inL hx ha v w H1 a b.n2l
theorem ro_inU {neg : Bool} {xs : List V} (hx : flatV x = true) (ha : xs.all flatV = true) : Ro K (rIn K neg) (.v x) (.u xs) (.v (.bl (if neg then !inV x xs else inV x xs))) := by
  rintro _ _ H1 rfl ⟨p, rfl, hp⟩ Q q
  exact ⟨p, xs, rfl, .inr hp, hx, ha, q _ H1 (Ex.refl H1) rfl⟩
theorem ro_inS {c : Nat} {z : Str} : Ro K rInS (.v (sgn c)) (.v (.str z)) (.v (.bl (decide (c ∈ z.cps.toList)))) := by
  rintro _ _ H1 rfl rfl Q q
  exact ⟨c, z, rfl, rfl, q _ H1 (Ex.refl H1) rfl⟩
theorem ro_niS {c : Nat} {z : Str} : Ro K rNotInS (.v (sgn c)) (.v (.str z)) (.v (.bl (!decide (c ∈ z.cps.toList)))) := by
  rintro _ _ H1 rfl rfl Q q
  exact ⟨c, z, rfl, rfl, q _ H1 (Ex.refl H1) rfl⟩
theorem ro_isN : Ro K rIsN (.v x) (.v .non) (.v (.bl (decide (x = .non)))) := by
  rintro _ _ H1 rfl rfl Q q
  exact ⟨rfl, q _ H1 (Ex.refl H1) rfl⟩
theorem ro_notN : Ro K rNotN (.v x) (.v .non) (.v (.bl (!decide (x = .non)))) := by
  rintro _ _ H1 rfl rfl Q q
  exact ⟨rfl, q _ H1 (Ex.refl H1) rfl⟩
end
end Mi

set_option maxHeartbeats 2000000
namespace Mi
open PySem PySem.Spec PyProof.Rows L2 Evl PySem.W
theorem zipS_at {x y : Str} {i : Nat} {a b : V} (h : (zipS x y)[i]? = some (a, b)) : ∃ c d, x.cps[i]? = some c ∧ y.cps[i]? = some d ∧ a = sgn c ∧ b = sgn d := by
  unfold zipS at h
  rw [List.getElem?_map] at h
  cases e : (x.cps.toList.zip y.cps.toList)[i]? with
  | none => rw [e] at h; cases h
  | some p =>
    rw [e] at h
    obtain ⟨c, d⟩ := p
    have h2 := List.getElem?_zip_eq_some.mp e
    have h3 : (sgn c, sgn d) = (a, b) := Option.some.inj h
    injection h3 with h4 h5
    exact ⟨c, d, by simpa using h2.1, by simpa using h2.2, h4.symm, h5.symm⟩
section
variable {K : PySem.W.Frag} {σ : L2.St} {H H' : Hp} {te ta tb tc : TE} {t u : TT} {tr : TA} {d d1 d2 d' : Dd} {x y : V} {r : R2}

/-! ### lists of whole numbers compared -/
theorem dpAll_ints : ∀ ns : List Int, DpAll K H (vis ns) (ns.map PyData.int)
  | [] => .nil
  | n :: r => .cons (.int n) (dpAll_ints r)
theorem eqv_ints : ∀ ns ms : List Int, PyData.eqvAll (ns.map PyData.int) (ms.map PyData.int) = decide (ns = ms)
  | [], [] => by simp [PyData.eqvAll]
  | [], _ :: _ => by simp [PyData.eqvAll]
  | _ :: _, [] => by simp [PyData.eqvAll]
  | a :: r, b :: t => by
    simp only [List.map_cons, PyData.eqvAll, PyData.eqv, eqv_ints r t]
    by_cases h : a = b <;> by_cases h' : r = t <;> simp [h, h']
theorem shaped_tup (ns : List Int) : SeqAt.shaped (.tuple (ns.map PyData.int)) = true := by
  simp [SeqAt.shaped, PyData.canLay0, PyData.depth, ke_canLayAll0, ke_depthAll]
theorem ro_eqL {ns ms : List Int} : Ro K (rEqD K) (.l (vis ns)) (.l (vis ms)) (.v (.bl (decide (ns = ms)))) := by
  rintro _ _ H1 ⟨p, rfl, hp⟩ ⟨p', rfl, hp'⟩ Q q
  refine ⟨_, _, .lst hp (dpAll_ints ns), .lst hp' (dpAll_ints ms), ke_shaped_ints ns, ke_shaped_ints ms, q _ H1 (Ex.refl H1) ?_⟩
  show V.bl (PyData.eqvAll _ _) = _
  rw [eqv_ints]
theorem ro_neL {ns ms : List Int} : Ro K (rNeD K) (.l (vis ns)) (.l (vis ms)) (.v (.bl (!decide (ns = ms)))) := by
  rintro _ _ H1 ⟨p, rfl, hp⟩ ⟨p', rfl, hp'⟩ Q q
  refine ⟨_, _, .lst hp (dpAll_ints ns), .lst hp' (dpAll_ints ms), ke_shaped_ints ns, ke_shaped_ints ms, q _ H1 (Ex.refl H1) ?_⟩
  show V.bl (!PyData.eqvAll _ _) = _
  rw [eqv_ints]
theorem ro_eqU {ns ms : List Int} : Ro K (rEqD K) (.u (vis ns)) (.u (vis ms)) (.v (.bl (decide (ns = ms)))) := by
  rintro _ _ H1 ⟨p, rfl, hp⟩ ⟨p', rfl, hp'⟩ Q q
  refine ⟨_, _, .tup hp (dpAll_ints ns), .tup hp' (dpAll_ints ms), shaped_tup ns, shaped_tup ms, q _ H1 (Ex.refl H1) ?_⟩
  show V.bl (PyData.eqvAll _ _) = _
  rw [eqv_ints]

/-! ### built-ins -/
def rInt1 : List V → Hp → VK → Prop := fun xs H Q => (∃ i, xs = [.int i] ∧ Q (.int i) H) ∨ ∃ k, xs = [.bl k] ∧ Q (.int (if k then 1 else 0)) H
def rTupS (K : PySem.W.Frag) : List V → Hp → VK → Prop := fun xs H Q => ∃ p ys, xs = [.ref p] ∧ ((SqL K H p ys ∧ ∀ l, H l = none → Q (.ref l) (upd H l (.tup ys))) ∨ (SqT K H p ys ∧ Q (.ref p) H))
def rLenStr : List V → Hp → VK → Prop := fun xs H Q => ∃ z, xs = [.str z] ∧ z.length ≤ sizeLine ∧ Q (.int z.length) H
theorem cr_len {X : Cx} : CallR X (.builtin "len") (rLenS X.K) := call_len_seq
theorem cr_lenStr {X : Cx} : CallR X (.builtin "len") rLenStr := call_len_str
theorem cr_int {X : Cx} : CallR X (.type "int") rInt1 := call_int1
theorem cr_list {X : Cx} : CallR X (.type "list") (rListS X.K) := call_list_of
theorem cr_tuple {X : Cx} : CallR X (.type "tuple") (rTupS X.K) := call_tuple_of
theorem cr_max2 {X : Cx} (hc : X.calm = true := by rfl) : CallR X (.builtin "max") rMax2 := call_max2 hc
theorem cr_isi {X : Cx} : CallR X (.builtin "isinstance") (rIsi X.K) := call_isi
theorem rc_lenL {xs : List V} : Rc K (rLenS K) [.l xs] (.v (.int (xs.length : Int))) := by
  rintro _ H1 (_ | ⟨⟨p, rfl, hp⟩, _ | _⟩) Q q
  exact ⟨p, xs, rfl, .inl hp, q _ H1 (Ex.refl H1) rfl⟩
theorem rc_lenN {xs : List V} : Rc K (rLenS K) [.n xs] (.v (.int (xs.length : Int))) := by
  rintro _ H1 (_ | ⟨⟨p, rfl, hp⟩, _ | _⟩) Q q
  exact ⟨p, xs, rfl, .inl (sq_of hp), q _ H1 (Ex.refl H1) rfl⟩
theorem rc_lenU {xs : List V} : Rc K (rLenS K) [.u xs] (.v (.int (xs.length : Int))) := by
  rintro _ H1 (_ | ⟨⟨p, rfl, hp⟩, _ | _⟩) Q q
  exact ⟨p, xs, rfl, .inr hp, q _ H1 (Ex.refl H1) rfl⟩
theorem rc_lenS {z : Str} (hz : z.length ≤ 100000) : Rc K rLenStr [.v (.str z)] (.v (.int (z.length : Int))) := by
  rintro _ H1 (_ | ⟨rfl, _ | _⟩) Q q
  exact ⟨z, rfl, sz_of hz, q _ H1 (Ex.refl H1) rfl⟩
theorem rc_int {i : Int} : Rc K rInt1 [.v (.int i)] (.v (.int i)) := by
  rintro _ H1 (_ | ⟨rfl, _ | _⟩) Q q
  exact .inl ⟨i, rfl, q _ H1 (Ex.refl H1) rfl⟩
theorem rc_intB {b : Bool} : Rc K rInt1 [.v (.bl b)] (.v (.int (if b then 1 else 0))) := by
  rintro _ H1 (_ | ⟨rfl, _ | _⟩) Q q
  exact .inr ⟨b, rfl, q _ H1 (Ex.refl H1) rfl⟩
theorem rc_max2 {i j : Int} : Rc K rMax2 [.v (.int i), .v (.int j)] (.v (.int (if j > i then j else i))) := by
  rintro _ H1 (_ | ⟨rfl, _ | ⟨rfl, _ | _⟩⟩) Q q
  exact ⟨i, j, rfl, q _ H1 (Ex.refl H1) rfl⟩
theorem rc_listL {xs : List V} : Rc K (rListS K) [.l xs] (.n xs) := by
  rintro _ H1 (_ | ⟨⟨p, rfl, hp⟩, _ | _⟩) Q q
  exact ⟨p, xs, rfl, .inl hp, fun l hl => q _ _ (Ex.new hl) ⟨l, rfl, upd_same⟩⟩
theorem rc_listU {xs : List V} : Rc K (rListS K) [.u xs] (.n xs) := by
  rintro _ H1 (_ | ⟨⟨p, rfl, hp⟩, _ | _⟩) Q q
  exact ⟨p, xs, rfl, .inr hp, fun l hl => q _ _ (Ex.new hl) ⟨l, rfl, upd_same⟩⟩
theorem rc_tupL {xs : List V} : Rc K (rTupS K) [.l xs] (.u xs) := by
  rintro _ H1 (_ | ⟨⟨p, rfl, hp⟩, _ | _⟩) Q q
  exact ⟨p, xs, rfl, .inl ⟨hp, fun l hl => q _ _ (Ex.new hl) ⟨l, rfl, st_of upd_same⟩⟩⟩
theorem rc_tupN {xs : List V} : Rc K (rTupS K) [.n xs] (.u xs) := fun vs H1 h Q q => by
  cases h with
  | cons a b => exact rc_tupL _ H1 (.cons a.n2l b) Q q
/-- isinstance(x, T) -/
theorem rc_isi {n : String} {b : Bool} (t : Value) (ht : ∀ H1 v, Is K H1 d v → TyX K H1 v t) (hk : PySem.W.kitOne K t (.type n) = some b) : Rc K (rIsi K) [d, .v (.ty n)] (.v (.bl b)) := by
  rintro _ H1 (_ | ⟨hd, _ | ⟨rfl, _ | _⟩⟩) Q q
  exact ⟨_, _, t, .type n, b, rfl, .ty n, ht _ _ hd, hk, q _ H1 (Ex.refl H1) rfl⟩
theorem ty_u {xs : List V} {H1 : Hp} {v : V} (h : Is K H1 (.u xs) v) : TyX K H1 v (.type "tuple") := by
  obtain ⟨p, rfl, hp⟩ := h
  rcases hp with (hp | ⟨o, hp⟩) | ⟨o, its, n, h1, h2, _⟩
  · exact .base (.tup hp)
  · exact .fTuple hp
  · exact .kTuple h1 h2
theorem ty_l {xs : List V} {H1 : Hp} {v : V} (h : Is K H1 (.l xs) v) : TyX K H1 v (.type "list") := by
  obtain ⟨p, rfl, hp⟩ := h
  rcases hp with (hp | ⟨o, hp⟩) | ⟨o, its, n, h1, h2, _⟩
  · exact .base (.lst hp)
  · exact .base (.frz hp)
  · exact .kList h1 h2
theorem rc_isi_int {n : String} {i : Int} {b : Bool} (h : kitB "int" n = some b) : Rc K (rIsi K) [.v (.int i), .v (.ty n)] (.v (.bl b)) := rc_isi (.type "int") (fun _ _ e => by rw [show _ = V.int i from e]; exact .base (.int i)) (kit_ty h)
theorem rc_isi_str {n : String} {i : Str} {b : Bool} (h : kitB "str" n = some b) : Rc K (rIsi K) [.v (.str i), .v (.ty n)] (.v (.bl b)) := rc_isi (.type "str") (fun _ _ e => by rw [show _ = V.str i from e]; exact .base (.str i)) (kit_ty h)
theorem rc_isi_bl {n : String} {i : Bool} {b : Bool} (h : kitB "bool" n = some b) : Rc K (rIsi K) [.v (.bl i), .v (.ty n)] (.v (.bl b)) := rc_isi (.type "bool") (fun _ _ e => by rw [show _ = V.bl i from e]; exact .base (.bl i)) (kit_ty h)
theorem rc_isi_non {n : String} {b : Bool} (h : kitB "NoneType" n = some b) : Rc K (rIsi K) [.v .non, .v (.ty n)] (.v (.bl b)) := rc_isi (.type "NoneType") (fun _ _ e => by rw [show _ = V.non from e]; exact .base .non) (kit_ty h)
theorem rc_isi_u {n : String} {xs : List V} {b : Bool} (h : kitB "tuple" n = some b) : Rc K (rIsi K) [.u xs, .v (.ty n)] (.v (.bl b)) := rc_isi (.type "tuple") (fun _ _ e => ty_u e) (kit_ty h)
theorem rc_isi_l {n : String} {xs : List V} {b : Bool} (h : kitB "list" n = some b) : Rc K (rIsi K) [.l xs, .v (.ty n)] (.v (.bl b)) := rc_isi (.type "list") (fun _ _ e => ty_l e) (kit_ty h)

/-! ### methods -/
def Rm (K : PySem.W.Frag) (T : String) (r : V → List V → Hp → VK → Prop) (d0 : Dd) (ds : List Dd) (d : Dd) : Prop :=
  (∀ x H1, Is K H1 d0 x → tyV K T x H1) ∧ ∀ x vs H1, Is K H1 d0 x → IsAll K H1 ds vs → ∀ Q : VK, (∀ v H2, Ex H1 H2 → Is K H2 d v → Q v H2) → r x vs H1 Q
theorem er_bm {T : String} {rm : V → List V → Hp → VK → Prop} {ds : List Dd} {d0 : Dd} {to : TE} (ho : Er K to σ H d0) (h : Era K tr σ H ds) (hr : Rm K T rm d0 ds d) : Er K (tBM K T rm to tr) σ H d := fun H1 e Q q =>
  ho H1 e _ fun x H2 e2 z => ⟨hr.1 x H2 z, h H2 (e.trans e2) _ fun vs H3 e3 z3 => hr.2 x vs H3 (z.mono e3) z3 Q fun v H4 e4 z4 => q v H4 ((e2.trans e3).trans e4) z4⟩
def rJoin (K : PySem.W.Frag) : V → List V → Hp → VK → Prop := fun x xs H Q => ∃ a p, ∃ ys : List Str, x = .str a ∧ xs = [.ref p] ∧ (SqL K H p (ys.map V.str) ∨ SqT K H p (ys.map V.str)) ∧ (ys.map (·.length)).sum + ys.length * a.length ≤ 16777216 ∧ Q (.str (Txt.join a ys)) H
theorem mt_joinN {X : Cx} : MtR X "str.join" (rJoin X.K) := mt_join
def rSIndex : V → List V → Hp → VK → Prop := fun x xs H Q => ∃ a b i rest, x = .str a ∧ xs = [.str b] ∧ Builtin.Str.occurrences a b 0 a.length 1 = i :: rest ∧ Q (.int (i : Nat)) H
theorem mt_sindexN {X : Cx} : MtR X "str.index" rSIndex := mt_sindex
theorem rm_join {a : Str} {ys : List Str} (hz : (ys.map (·.length)).sum + ys.length * a.length ≤ 100000) : Rm K "str" (rJoin K) (.v (.str a)) [.n (vss ys)] (.v (.str (Txt.join a ys))) := by
  refine ⟨fun x H1 e => ?_, ?_⟩
  · rw [show x = V.str a from e]; exact rfl
  · rintro _ _ H1 rfl (_ | ⟨⟨p, rfl, hp⟩, _ | _⟩) Q q
    exact ⟨a, p, ys, rfl, rfl, .inl (sq_of hp), by omega, q _ H1 (Ex.refl H1) rfl⟩
theorem rm_sindex {a b : Str} {i : Nat} {rest : List Nat} (h : Builtin.Str.occurrences a b 0 a.length 1 = i :: rest) : Rm K "str" rSIndex (.v (.str a)) [.v (.str b)] (.v (.int (i : Int))) := by
  refine ⟨fun x H1 e => ?_, ?_⟩
  · rw [show x = V.str a from e]; exact rfl
  · rintro _ _ H1 rfl (_ | ⟨rfl, _ | _⟩) Q q
    exact ⟨a, b, i, rest, rfl, rfl, h, q _ H1 (Ex.refl H1) rfl⟩
theorem rm_count {ys : List Str} {z : Str} : Rm K "list" (rCntS K) (.l (vss ys)) [.v (.str z)] (.v (.int (ys.count z : Nat))) := by
  refine ⟨fun x H1 e => ?_, ?_⟩
  · obtain ⟨p, rfl, hp⟩ := e
    exact .inl ⟨rfl, _, hp⟩
  · rintro _ _ H1 ⟨p, rfl, hp⟩ (_ | ⟨rfl, _ | _⟩) Q q
    exact ⟨p, ys, z, rfl, rfl, hp, q _ H1 (Ex.refl H1) rfl⟩
theorem er_repG {a y z : Str} (h : Er K te σ H (.v (.str a))) (hz : a.length ≤ 1000) (hz2 : z.length ≤ 1000) : Er K (tRepG te y z) σ H (.v (.str (Txt.replace a y z))) := fun H1 e Q q =>
  h H1 e _ fun v H2 e2 z2 => ⟨a, z2, by
    have : (a.length + 1) * z.length ≤ 1001 * 1000 := Nat.mul_le_mul (by omega) hz2
    omega, q _ H2 e2 rfl⟩

/-! ### slices -/
def Eo (to : TO) (σ : L2.St) (H : Hp) (o : Option Int) : Prop := EvO to σ H o
theorem eo_non : EvO tNoPart σ H none := eo_none
theorem eo_of {i : Int} (h : Er K te σ H (.v (.int i))) : EvO (tPart te) σ H (some i) := fun H1 e _ q => h H1 e _ fun v H2 e2 z => ⟨i, z, q H2 e2⟩
theorem er_slL {tl th : TO} {xs : List V} {lo hi : Option Int} (h : Er K te σ H (.l xs)) (h1 : EvO tl σ H lo) (h2 : EvO th σ H hi) : Er K (tSl (rSlL K) te tl th) σ H (.n (cutV xs lo hi)) := fun H1 e _ q =>
  h H1 e _ fun v H2 e2 ⟨p, ep, hp⟩ => h1 H2 (e.trans e2) _ fun H3 e3 => h2 H3 ((e.trans e2).trans e3) _ fun H4 e4 => by
    subst ep
    exact ⟨p, xs, rfl, ex_l (e3.trans e4) hp, fun l hl => q _ _ (((e2.trans e3).trans e4).trans (Ex.new hl)) ⟨l, rfl, upd_same⟩⟩
theorem er_slS {tl th : TO} {z : Str} {lo hi : Option Int} (h : Er K te σ H (.v (.str z))) (hz : z.length ≤ 100000) (h1 : EvO tl σ H lo) (h2 : EvO th σ H hi) : Er K (tSl rSlS te tl th) σ H (.v (.str (cutS z lo hi))) := fun H1 e _ q =>
  h H1 e _ fun v H2 e2 ev => h1 H2 (e.trans e2) _ fun H3 e3 => h2 H3 ((e.trans e2).trans e3) _ fun H4 e4 => ⟨z, ev, sz_of hz, q _ H4 ((e2.trans e3).trans e4) rfl⟩

/-! ### tests, choices -/
theorem et_t {b : Bool} (h : Er K te σ H (.v (.bl b))) : EvT (tTest te) σ H b := fun H1 e _ q => h H1 e _ fun v H2 e2 z => ⟨b, z, q H2 e2⟩
theorem et_v {b : Bool} (h : Er K te σ H (.v (.bl b))) : EvT (tB te) σ H b := fun H1 e _ q => h H1 e _ fun v H2 e2 z => ⟨b, z, q H2 e2⟩
theorem er_if {b : Bool} (h : EvT t σ H b) (h1 : b = true → Er K ta σ H d) (h2 : b = false → Er K tb σ H d) : Er K (tIf t ta tb) σ H d := fun H1 e Q q => h H1 e _ fun H2 e2 => by
  cases b with
  | true =>
    show ta σ H2 Q
    exact h1 rfl H2 (e.trans e2) Q fun v H3 e3 z => q v H3 (e2.trans e3) z
  | false =>
    show tb σ H2 Q
    exact h2 rfl H2 (e.trans e2) Q fun v H3 e3 z => q v H3 (e2.trans e3) z
theorem er_andV {a b : Bool} (h1 : Er K ta σ H (.v (.bl a))) (h2 : a = true → Er K tb σ H (.v (.bl b))) : Er K (tAndV ta tb) σ H (.v (.bl (a && b))) := fun H1 e Q q => h1 H1 e _ fun v H2 e2 z => ⟨a, z, by
  cases a with
  | true =>
    show tb σ H2 Q
    exact h2 rfl H2 (e.trans e2) Q fun v H3 e3 z => q v H3 (e2.trans e3) z
  | false =>
    show Q (.bl false) H2
    exact q _ H2 e2 rfl⟩
theorem er_orV {a b : Bool} (h1 : Er K ta σ H (.v (.bl a))) (h2 : a = false → Er K tb σ H (.v (.bl b))) : Er K (tOrV ta tb) σ H (.v (.bl (a || b))) := fun H1 e Q q => h1 H1 e _ fun v H2 e2 z => ⟨a, z, by
  cases a with
  | true =>
    show Q (.bl true) H2
    exact q _ H2 e2 rfl
  | false =>
    show tb σ H2 Q
    exact h2 rfl H2 (e.trans e2) Q fun v H3 e3 z => q v H3 (e2.trans e3) z⟩
theorem er_notV {a : Bool} (h1 : Er K ta σ H (.v (.bl a))) : Er K (tNotV ta) σ H (.v (.bl (!a))) := fun H1 e Q q => h1 H1 e _ fun v H2 e2 z => ⟨a, z, q _ H2 e2 rfl⟩

/-! ### calls of the text's own defs -/
def spR (K : PySem.W.Frag) {A : Type} (pre : A → Prop) (args : A → List Dd) (ret : A → Dd) : Sp := fun vs H Q _ => ∃ a : A, pre a ∧ IsAll K H (args a) vs ∧ ∀ v H', Ex H H' → Is K H' (ret a) v → Q v H'
theorem er_call {A : Type} {pre : A → Prop} {args : A → List Dd} {ret : A → Dd} {E : XK} {ds : List Dd} (a : A) (h : Era K tr σ H ds) (hd : ds = args a) (hp : pre a) : Er K (tCall (spR K pre args ret) [] E tr) σ H (ret a) := fun H1 e Q q =>
  h H1 e _ fun vs H2 e2 z => by
    rw [List.append_nil]
    exact ⟨a, hp, hd ▸ z, fun v H' e3 z3 => q v H' (e2.trans e3) z3⟩
theorem er_call2 {A : Type} {pre : A → Prop} {args : A → List Dd} {ret : A → Dd} (a : A) (h1 : Er K ta σ H d1) (h2 : Er K tb σ H d2) (hd : [d2, d1] = args a) (hp : pre a) : Er K (tCall2 (spR K pre args ret) ta tb) σ H (ret a) := fun H1 e Q q =>
  h1 H1 e _ fun v1 H2 e2 z1 => h2 H2 (e.trans e2) _ fun v2 H3 e3 z2 => ⟨v1, v2, rfl, a, hp, hd ▸ .cons z2 (.cons (z1.mono e3) .nil), fun v H' e4 z => q v H' ((e2.trans e3).trans e4) z⟩
theorem er_call1 {A : Type} {pre : A → Prop} {args : A → List Dd} {ret : A → Dd} (a : A) (h1 : Er K ta σ H d1) (hd : [d1] = args a) (hp : pre a) : Er K (tCall1 (spR K pre args ret) ta) σ H (ret a) := fun H1 e Q q =>
  h1 H1 e _ fun v1 H2 e2 z1 => ⟨v1, rfl, a, hp, hd ▸ .cons z1 .nil, fun v H' e4 z => q v H' (e2.trans e4) z⟩

/-! ### statements -/
variable {D : Ends} {tu tw tz : TS} {g : TG}
theorem a_asg {i : Nat} (h : Er K te σ H d) (k : ∀ v H1, Ex H H1 → Is K H1 d v → tz D (σ.set i (some v)) H1) : tSeq (tAsg te (gName i)) tz D σ H := h H (Ex.refl H) _ fun v H1 e z => k v H1 e z
theorem a_asg1 {i : Nat} (h : Er K te σ H d) (k : ∀ v H1, Ex H H1 → Is K H1 d v → D.nx (σ.set i (some v)) H1) : tAsg te (gName i) D σ H := h H (Ex.refl H) _ fun v H1 e z => k v H1 e z
theorem a_ret (h : Er K te σ H d) (k : ∀ v H1, Ex H H1 → Is K H1 d v → D.rt v H1) : tRet te D σ H := h H (Ex.refl H) _ k
/-- a new list that will grow -/
theorem a_new {i : Nat} (k : ∀ p H1, H p = none → Ex H H1 → H1 p = some (.lst []) → tz D (σ.set i (some (.ref p))) H1) : tSeq (tAsg (tLst tNil) (gName i)) tz D σ H :=
  ⟨Nat.zero_le _, fun p hp => k p _ hp (Ex.new hp) upd_same⟩
theorem a_app {l : Addr} {xs : List V} (hl : H l = some (.lst xs)) (ha : Er K ta σ H (.v (.ref l))) (h : Er K te σ H (.v x)) (hz : xs.length < 100000) (k : ∀ H1, Ex H H1 → D.nx σ (upd H1 l (.lst (xs ++ [x])))) :
    tDrop (tBM K "list" rAppend ta (tCons te tNil)) D σ H := ha H (Ex.refl H) _ fun v H1 e1 z1 => by
  have ez : v = .ref l := z1
  subst ez
  exact ⟨Or.inl ⟨rfl, xs, sq_of (e1 l _ hl)⟩, h H1 e1 _ fun v H2 e2 z2 => by
    have e3 : v = x := z2
    subst e3
    exact ⟨l, xs, v, rfl, rfl, e2 l _ (e1 l _ hl), sz_lt hz, k H2 (e1.trans e2)⟩⟩
theorem b_app {l : Addr} {xs : List V} (hl : H l = some (.lst xs)) (ha : Er K ta σ H (.v (.ref l))) (h : Er K te σ H (.v x)) (hz : xs.length < 100000) (k : ∀ H1, Ex H H1 → tz D σ (upd H1 l (.lst (xs ++ [x])))) :
    tSeq (tDrop (tBM K "list" rAppend ta (tCons te tNil))) tz D σ H := a_app (D := { D with nx := tz D }) hl ha h hz k
theorem a_forR1 {ta : TA} {j : Nat} {n : Nat} (h : Era K ta σ H [.v (.int (n : Int))]) (hn : n ≤ 100000) (Pv : Nat → L2.St → Hp → Prop) (h0 : ∀ H1, Ex H H1 → Pv 0 σ H1)
    (hs : ∀ (i : Nat) σ' H', i < n → Pv i σ' H' → tu { D with nx := Pv (i + 1), ct := Pv (i + 1), bk := D.nx } (σ'.set j (some (.int (i : Int)))) H') (hd : ∀ σ' H', Pv n σ' H' → D.nx σ' H') : tFor (iRng1 ta) (gName j) tu D σ H :=
  h H (Ex.refl H) _ fun vs H1 e z => by
    rcases z with _ | ⟨rfl, _ | _⟩
    exact ⟨(n : Int), rfl, by omega, by omega, for_range (lo := 0) (n := (n : Int).toNat) Pv (h0 H1 e) (fun i σ' H' hi p => by
      have e0 : (0 : Int) + (i : Int) = (i : Int) := Int.zero_add _
      show tu { D with nx := Pv (i + 1), ct := Pv (i + 1), bk := D.nx } (σ'.set j (some (.int ((0 : Int) + (i : Int))))) H'
      rw [e0]
      exact hs i σ' H' (by omega) p) (by rw [Int.toNat_natCast]; exact hd)⟩
theorem b_forR1 {ta : TA} {j : Nat} {n : Nat} (h : Era K ta σ H [.v (.int (n : Int))]) (hn : n ≤ 100000) (Pv : Nat → L2.St → Hp → Prop) (h0 : ∀ H1, Ex H H1 → Pv 0 σ H1)
    (hs : ∀ (i : Nat) σ' H', i < n → Pv i σ' H' → tu { D with nx := Pv (i + 1), ct := Pv (i + 1), bk := tz D } (σ'.set j (some (.int (i : Int)))) H') (hd : ∀ σ' H', Pv n σ' H' → tz D σ' H') : tSeq (tFor (iRng1 ta) (gName j) tu) tz D σ H :=
  a_forR1 (D := { D with nx := tz D }) h hn Pv h0 hs hd
/-- a loop over a list that stands at a: its place among the slots is known -/
theorem a_forA {a : Addr} {xs : List V} {tl : TE} {j : Nat} (h : Er K tl σ H (.v (.ref a))) (hx : SqL K H a xs) (Pv : Nat → L2.St → Hp → Prop) (h0 : ∀ H1, Ex H H1 → Pv 0 σ H1) (hl : ∀ i σ' H', i ≤ xs.length → Pv i σ' H' → SqL K H' a xs)
    (hs : ∀ i x σ' H', xs[i]? = some x → Pv i σ' H' → tu { D with nx := Pv (i + 1), ct := Pv (i + 1), bk := D.nx } (σ'.set j (some x)) H') (hd : ∀ σ' H', Pv xs.length σ' H' → D.nx σ' H') : tFor (iList K tl) (gName j) tu D σ H :=
  h H (Ex.refl H) _ fun v H1 e z => by
    have ez : v = .ref a := z
    subst ez
    exact ⟨a, rfl, ⟨xs, ex_l e hx⟩, for_list Pv (h0 H1 e) hl hs hd⟩
theorem b_forA {a : Addr} {xs : List V} {tl : TE} {j : Nat} (h : Er K tl σ H (.v (.ref a))) (hx : SqL K H a xs) (Pv : Nat → L2.St → Hp → Prop) (h0 : ∀ H1, Ex H H1 → Pv 0 σ H1) (hl : ∀ i σ' H', i ≤ xs.length → Pv i σ' H' → SqL K H' a xs)
    (hs : ∀ i x σ' H', xs[i]? = some x → Pv i σ' H' → tu { D with nx := Pv (i + 1), ct := Pv (i + 1), bk := tz D } (σ'.set j (some x)) H') (hd : ∀ σ' H', Pv xs.length σ' H' → tz D σ' H') : tSeq (tFor (iList K tl) (gName j) tu) tz D σ H :=
  a_forA (D := { D with nx := tz D }) h hx Pv h0 hl hs hd
/-- a loop over a list wherever it stands; nothing that stood ahead of the loop is changed -/
theorem a_forL {xs : List V} {tl : TE} {j : Nat} (h : Er K tl σ H (.l xs)) (Pv : Hp → Nat → L2.St → Hp → Prop) (h0 : ∀ H1, Ex H H1 → Pv H1 0 σ H1) (hl : ∀ H1 i σ' H', Pv H1 i σ' H' → Ex H1 H')
    (hs : ∀ H1 i x σ' H', Ex H H1 → xs[i]? = some x → Pv H1 i σ' H' → tu { D with nx := Pv H1 (i + 1), ct := Pv H1 (i + 1), bk := D.nx } (σ'.set j (some x)) H') (hd : ∀ H1 σ' H', Ex H H1 → Pv H1 xs.length σ' H' → D.nx σ' H') : tFor (iList K tl) (gName j) tu D σ H :=
  h H (Ex.refl H) _ fun v H1 e ⟨p, ep, hp⟩ => by
    subst ep
    exact ⟨p, rfl, ⟨xs, hp⟩, for_list (Pv H1) (h0 H1 e) (fun i σ' H' _ q => ex_l (hl H1 i σ' H' q) hp) (fun i x σ' H' hx q => hs H1 i x σ' H' e hx q) (fun σ' H' q => hd H1 σ' H' e q)⟩
theorem b_forL {xs : List V} {tl : TE} {j : Nat} (h : Er K tl σ H (.l xs)) (Pv : Hp → Nat → L2.St → Hp → Prop) (h0 : ∀ H1, Ex H H1 → Pv H1 0 σ H1) (hl : ∀ H1 i σ' H', Pv H1 i σ' H' → Ex H1 H')
    (hs : ∀ H1 i x σ' H', Ex H H1 → xs[i]? = some x → Pv H1 i σ' H' → tu { D with nx := Pv H1 (i + 1), ct := Pv H1 (i + 1), bk := tz D } (σ'.set j (some x)) H') (hd : ∀ H1 σ' H', Ex H H1 → Pv H1 xs.length σ' H' → tz D σ' H') : tSeq (tFor (iList K tl) (gName j) tu) tz D σ H :=
  a_forL (D := { D with nx := tz D }) h Pv h0 hl hs hd

/-! ### loops over pairs in new tuples -/
theorem for_P {ps : List (V × V)} {g : TG} {tb : TS} {D : Ends} {σ : L2.St} {H : Hp} (Pv : Nat → L2.St → Hp → Prop) (h0 : Pv 0 σ H)
    (hs : ∀ (i : Nat) (x y : V) (T : Addr) σ H, ps[i]? = some (x, y) → Pv i σ H → H T = none → g (.ref T) σ (upd H T (.tup [x, y])) fun σ2 H2 => tb { D with nx := Pv (i + 1), ct := Pv (i + 1), bk := D.nx } σ2 H2) (hd : ∀ σ H, Pv ps.length σ H → D.nx σ H) :
    ∃ W : Nat → Nat → L2.St → Hp → Prop, (∃ m, W 0 m σ H) ∧ ∀ i m σ H, W i m σ H →
      ((ItP ps).stop i H ∧ D.nx σ H) ∨ ((ItP ps).go i H ∧ ∃ N : L2.St → Hp → Prop, (∀ σ' H', N σ' H' → ∃ m', m' < m ∧ W (i + 1) m' σ' H') ∧ ∀ v H', (ItP ps).yld i H v H' → g v σ H' fun σ2 H2 => tb { D with nx := N, ct := N, bk := D.nx } σ2 H2) := by
  refine ⟨fun i m σ H => m = ps.length - i ∧ i ≤ ps.length ∧ Pv i σ H, ⟨ps.length, by simp, Nat.zero_le _, h0⟩, ?_⟩
  rintro i m σ H ⟨rfl, hi, p⟩
  by_cases hlt : i < ps.length
  · refine .inr ⟨hlt, Pv (i + 1), fun σ' H' p' => ⟨ps.length - (i + 1), by omega, rfl, hlt, p'⟩, fun v H' y => ?_⟩
    obtain ⟨T, x, y, rfl, hT, rfl, hxy⟩ := y
    exact hs i x y T σ H hxy p hT
  · have e : i = ps.length := by omega
    subst e
    exact .inl ⟨rfl, hd σ H p⟩
/-- for a, b in zip(one, two), two texts, the names in slots j1, j2 -/
theorem a_forZ {ta : TA} {j1 j2 : Nat} {one two : Str} (h : Era K ta σ H [.v (.str one), .v (.str two)]) (Pv : Nat → L2.St → Hp → Prop) (h0 : ∀ H1, Ex H H1 → Pv 0 σ H1)
    (hs : ∀ i c1 c2 σ' H' H2, one.cps[i]? = some c1 → two.cps[i]? = some c2 → Pv i σ' H' → Ex H' H2 → tu { D with nx := Pv (i + 1), ct := Pv (i + 1), bk := D.nx } ((σ'.set j1 (some (sgn c1))).set j2 (some (sgn c2))) H2)
    (hd : ∀ σ' H', Pv (min one.length two.length) σ' H' → D.nx σ' H') : tFor (iZipS ta) (gTup K 2 (gCons (gName j1) (gCons (gName j2) gNil))) tu D σ H :=
  h H (Ex.refl H) _ fun vs H1 e z => by
    rcases z with _ | ⟨rfl, _ | ⟨rfl, _ | _⟩⟩
    refine ⟨one, two, rfl, for_P Pv (h0 H1 e) (fun i x y T σ' H' hxy p hT => ?_) (fun σ' H' p => hd σ' H' (by rw [zipS_len] at p; exact p))⟩
    obtain ⟨c1, c2, h1, h2, e1, e2⟩ := zipS_at hxy
    subst e1
    subst e2
    exact ⟨T, [_, _], rfl, st_of upd_same, rfl, _, [_], rfl, _, [], rfl, rfl, hs i c1 c2 σ' H' _ h1 h2 p (Ex.new hT)⟩
theorem b_forZ {ta : TA} {j1 j2 : Nat} {one two : Str} (h : Era K ta σ H [.v (.str one), .v (.str two)]) (Pv : Nat → L2.St → Hp → Prop) (h0 : ∀ H1, Ex H H1 → Pv 0 σ H1)
    (hs : ∀ i c1 c2 σ' H' H2, one.cps[i]? = some c1 → two.cps[i]? = some c2 → Pv i σ' H' → Ex H' H2 → tu { D with nx := Pv (i + 1), ct := Pv (i + 1), bk := tz D } ((σ'.set j1 (some (sgn c1))).set j2 (some (sgn c2))) H2)
    (hd : ∀ σ' H', Pv (min one.length two.length) σ' H' → tz D σ' H') : tSeq (tFor (iZipS ta) (gTup K 2 (gCons (gName j1) (gCons (gName j2) gNil))) tu) tz D σ H :=
  a_forZ (D := { D with nx := tz D }) h Pv h0 hs hd
theorem q_tCut {M : L2.St → Hp → Prop} (h : tu { D with nx := M } σ H) (k : ∀ σ' H', M σ' H' → tz D σ' H') : tCut tu tz D σ H := ⟨M, h, k⟩
end

/-! ### list comprehensions whose items are flat -/
section
variable {K : PySem.W.Frag} {σ : L2.St} {H H' : Hp} {te tl : TE} {t : TT} {ta : TA}
/-- what has been made behind i turns -/
def acc {α : Type} (its : List α) (f : α → Bool) (g : α → V) (i : Nat) : List V := ((its.take i).filter f).map g
theorem acc_next {α : Type} {its : List α} {f : α → Bool} {g : α → V} {i : Nat} {x : α} (h : its[i]? = some x) : acc its f g (i + 1) = acc its f g i ++ if f x = true then [g x] else [] := by
  unfold acc
  rw [List.take_add_one, h]
  simp only [Option.toList, List.filter_append, List.map_append]
  congr 1
  by_cases hf : f x = true
  · simp [hf]
  · simp [hf]
theorem acc_all {α : Type} {its : List α} {f : α → Bool} {g : α → V} : acc its f g its.length = (its.filter f).map g := by
  unfold acc
  rw [List.take_length]
theorem acc_len {α : Type} (its : List α) (f : α → Bool) (g : α → V) (i : Nat) : (acc its f g i).length ≤ i := by
  unfold acc
  rw [List.length_map]
  refine Nat.le_trans (List.length_filter_le _ _) ?_
  rw [List.length_take]
  exact Nat.min_le_left _ _
def Cv {α : Type} (H : Hp) (its : List α) (f : α → Bool) (g : α → V) (Dl : Addr) (i : Nat) (H' : Hp) : Prop := H Dl = none ∧ Ex H H' ∧ H' Dl = some (.lst (acc its f g i))
theorem cv_turn {α : Type} {its : List α} {H H' H'' : Hp} {f : α → Bool} {g : α → V} {Dl : Addr} {i : Nat} {x : α} {σ2 : L2.St} (p : Cv H its f g Dl i H') (hx : its[i]? = some x) (hi : its.length ≤ 50000) (he2 : Ex H' H'') (ht : EvT t σ2 H (f x)) (he : f x = true → Er K te σ2 H (.v (g x))) :
    t σ2 H'' fun b H3 => if b = true then te σ2 H3 fun y H4 => ∃ acc, H4 Dl = some (.lst acc) ∧ acc.length < sizeLine ∧ Cv H its f g Dl (i + 1) (upd H4 Dl (.lst (acc ++ [y]))) else Cv H its f g Dl (i + 1) H3 := by
  obtain ⟨p1, p2, p3⟩ := p
  have hlt := (List.getElem?_eq_some_iff.mp hx).1
  refine ht H'' (p2.trans he2) _ fun H3 e3 => ?_
  have p4 := e3 Dl _ (he2 Dl _ p3)
  cases hf : f x with
  | true =>
    show te σ2 H3 fun y H4 => ∃ a, H4 Dl = some (.lst a) ∧ a.length < sizeLine ∧ Cv H its f g Dl (i + 1) (upd H4 Dl (.lst (a ++ [y])))
    refine he hf H3 ((p2.trans he2).trans e3) _ fun y H4 e4 z => ?_
    have ez : y = g x := z
    subst ez
    refine ⟨acc its f g i, e4 Dl _ p4, sz_lt (by have := acc_len its f g i; omega), p1, Ex.mut (((p2.trans he2).trans e3).trans e4) p1, ?_⟩
    rw [acc_next hx, if_pos hf]
    exact upd_same
  | false =>
    show Cv H its f g Dl (i + 1) H3
    refine ⟨p1, (p2.trans he2).trans e3, ?_⟩
    rw [acc_next hx, if_neg (by rw [hf]; exact Bool.false_ne_true), List.append_nil]
    exact p4
/-- [e for x in range(n) if t] -/
theorem er_lcR {n j : Nat} {vs : List Nat} (f : Nat → Bool) (g : Nat → V) (h : Era K ta σ H [.v (.int (n : Int))]) (hn : n ≤ 40000) (hw : ∀ x, wipe ((wipe σ vs).set j (some x)) vs = wipe σ vs)
    (ht : ∀ i H1, Ex H H1 → i < n → EvT t ((wipe σ vs).set j (some (.int (i : Int)))) H1 (f i)) (he : ∀ i H1, Ex H H1 → i < n → f i = true → Er K te ((wipe σ vs).set j (some (.int (i : Int)))) H1 (.v (g i))) :
    Er K (tLc (iRng1 ta) (gName j) t te vs) σ H (.n (((List.range n).filter f).map g)) := fun H0 e Q q => h H0 e _ fun ws H1 e1 z => by
  rcases z with _ | ⟨rfl, _ | _⟩
  refine ⟨(n : Int), rfl, by omega, by omega, fun Dl hD => ?_⟩
  rw [Int.toNat_natCast]
  refine lc_range (lo := 0) (n := n) (Cv H1 (List.range n) f g Dl) ⟨hD, Ex.new hD, upd_same⟩ (fun i H' hi p => ?_) fun H' p => ?_
  · have e0 : (0 : Int) + (i : Int) = (i : Int) := Int.zero_add _
    show wipe ((wipe σ vs).set j (some (.int ((0 : Int) + (i : Int))))) vs = wipe σ vs ∧ t ((wipe σ vs).set j (some (.int ((0 : Int) + (i : Int))))) H' fun b H3 => if b = true then te ((wipe σ vs).set j (some (.int ((0 : Int) + (i : Int))))) H3 fun y H4 => ∃ acc, H4 Dl = some (.lst acc) ∧ acc.length < sizeLine ∧ Cv H1 (List.range n) f g Dl (i + 1) (upd H4 Dl (.lst (acc ++ [y]))) else Cv H1 (List.range n) f g Dl (i + 1) H3
    rw [e0]
    exact ⟨hw _, cv_turn p (x := i) (by rw [List.getElem?_range hi]) (by rw [List.length_range]; omega) (Ex.refl _) (ht i H1 (e.trans e1) hi) (fun hf => he i H1 (e.trans e1) hi hf)⟩
  · obtain ⟨p1, p2, p3⟩ := p
    refine q _ H' (e1.trans p2) ⟨Dl, rfl, ?_⟩
    rw [p3]
    have := acc_all (its := List.range n) (f := f) (g := g)
    rw [List.length_range] at this
    rw [this]
/-- .. over a list -/
theorem er_lcL {α : Type} {its : List α} {inj : α → V} {j : Nat} {vs : List Nat} (f : α → Bool) (g : α → V) (h : Er K tl σ H (.l (its.map inj))) (hz : its.length ≤ 40000) (hw : ∀ x, wipe ((wipe σ vs).set j (some x)) vs = wipe σ vs)
    (ht : ∀ (i : Nat) x H1, Ex H H1 → its[i]? = some x → EvT t ((wipe σ vs).set j (some (inj x))) H1 (f x)) (he : ∀ (i : Nat) x H1, Ex H H1 → its[i]? = some x → f x = true → Er K te ((wipe σ vs).set j (some (inj x))) H1 (.v (g x))) :
    Er K (tLc (iList K tl) (gName j) t te vs) σ H (.n ((its.filter f).map g)) := fun H0 e Q q => h H0 e _ fun w H1 e1 ⟨a, ea, ha⟩ => by
  subst ea
  refine ⟨a, rfl, ⟨_, ha⟩, fun Dl hD => ?_⟩
  refine lc_list (xs := its.map inj) (Cv H1 its f g Dl) ⟨hD, Ex.new hD, upd_same⟩ (fun i H' _ p => ex_l p.2.1 ha) (fun i y H' hy p => ?_) fun H' p => ?_
  · rw [List.getElem?_map] at hy
    cases hx : its[i]? with
    | none => rw [hx] at hy; cases hy
    | some x =>
      rw [hx] at hy
      have ey : inj x = y := Option.some.inj hy
      subst ey
      exact ⟨hw _, cv_turn p hx (by omega) (Ex.refl _) (ht i x H1 (e.trans e1) hx) (fun hf => he i x H1 (e.trans e1) hx hf)⟩
  · obtain ⟨p1, p2, p3⟩ := p
    refine q _ H' (e1.trans p2) ⟨Dl, rfl, ?_⟩
    rw [p3, List.length_map, acc_all]

theorem lc_P {ps : List (V × V)} {g : TG} {tt : TT} {te : TE} {vs : List Nat} {σ : L2.St} {H1 : Hp} {D : Addr} {Qd : Hp → Prop} (Pv : Nat → Hp → Prop) (h0 : Pv 0 (upd H1 D (.lst [])))
    (hs : ∀ (i : Nat) x y (T : Addr) H, ps[i]? = some (x, y) → Pv i H → H T = none → g (.ref T) (wipe σ vs) (upd H T (.tup [x, y])) fun σ2 H2 => wipe σ2 vs = wipe σ vs ∧ tt σ2 H2 fun b H3 =>
      if b = true then te σ2 H3 fun y H4 => ∃ acc, H4 D = some (.lst acc) ∧ acc.length < sizeLine ∧ Pv (i + 1) (upd H4 D (.lst (acc ++ [y]))) else Pv (i + 1) H3) (hd : ∀ H, Pv ps.length H → Qd H) :
    ∃ W : Nat → Nat → Hp → Prop, (∃ m, W 0 m (upd H1 D (.lst []))) ∧ ∀ i m H, W i m H →
      ((ItP ps).stop i H ∧ Qd H) ∨ ((ItP ps).go i H ∧ ∃ Nx : Hp → Prop, (∀ H', Nx H' → ∃ m', m' < m ∧ W (i + 1) m' H') ∧ ∀ x H', (ItP ps).yld i H x H' → g x (wipe σ vs) H' fun σ2 H2 => wipe σ2 vs = wipe σ vs ∧ tt σ2 H2 fun b H3 =>
        if b = true then te σ2 H3 fun y H4 => ∃ acc, H4 D = some (.lst acc) ∧ acc.length < sizeLine ∧ Nx (upd H4 D (.lst (acc ++ [y]))) else Nx H3) := by
  refine ⟨fun i m H => m = ps.length - i ∧ i ≤ ps.length ∧ Pv i H, ⟨ps.length, by simp, Nat.zero_le _, h0⟩, ?_⟩
  rintro i m H ⟨rfl, hi, p⟩
  by_cases hlt : i < ps.length
  · refine .inr ⟨hlt, Pv (i + 1), fun H' p' => ⟨ps.length - (i + 1), by omega, rfl, hlt, p'⟩, fun v H' y => ?_⟩
    obtain ⟨T, x, y, rfl, hT, rfl, hxy⟩ := y
    exact hs i x y T H hxy p hT
  · have e : i = ps.length := by omega
    subst e
    exact .inl ⟨rfl, hd H p⟩
theorem lc_S {z : Str} {g : TG} {tt : TT} {te : TE} {vs : List Nat} {σ : L2.St} {H1 : Hp} {D : Addr} {Qd : Hp → Prop} (Pv : Nat → Hp → Prop) (h0 : Pv 0 (upd H1 D (.lst [])))
    (hs : ∀ (i : Nat) c H, z.cps.toList[i]? = some c → Pv i H → g (sgn c) (wipe σ vs) H fun σ2 H2 => wipe σ2 vs = wipe σ vs ∧ tt σ2 H2 fun b H3 =>
      if b = true then te σ2 H3 fun y H4 => ∃ acc, H4 D = some (.lst acc) ∧ acc.length < sizeLine ∧ Pv (i + 1) (upd H4 D (.lst (acc ++ [y]))) else Pv (i + 1) H3) (hd : ∀ H, Pv z.cps.size H → Qd H) :
    ∃ W : Nat → Nat → Hp → Prop, (∃ m, W 0 m (upd H1 D (.lst []))) ∧ ∀ i m H, W i m H →
      ((Its z).stop i H ∧ Qd H) ∨ ((Its z).go i H ∧ ∃ Nx : Hp → Prop, (∀ H', Nx H' → ∃ m', m' < m ∧ W (i + 1) m' H') ∧ ∀ x H', (Its z).yld i H x H' → g x (wipe σ vs) H' fun σ2 H2 => wipe σ2 vs = wipe σ vs ∧ tt σ2 H2 fun b H3 =>
        if b = true then te σ2 H3 fun y H4 => ∃ acc, H4 D = some (.lst acc) ∧ acc.length < sizeLine ∧ Nx (upd H4 D (.lst (acc ++ [y]))) else Nx H3) := by
  refine ⟨fun i m H => m = z.cps.size - i ∧ i ≤ z.cps.size ∧ Pv i H, ⟨z.cps.size, by simp, Nat.zero_le _, h0⟩, ?_⟩
  rintro i m H ⟨rfl, hi, p⟩
  by_cases hlt : i < z.cps.size
  · refine .inr ⟨hlt, Pv (i + 1), fun H' p' => ⟨z.cps.size - (i + 1), by omega, rfl, hlt, p'⟩, fun v H' y => ?_⟩
    obtain ⟨rfl, c, hc, rfl⟩ := y
    exact hs i c _ (by simpa using hc) p
  · have e : i = z.cps.size := by omega
    subst e
    exact .inl ⟨Nat.le_refl _, hd H p⟩
/-- [e for c in text if t] -/
theorem er_lcS {z : Str} {j : Nat} {vs : List Nat} (f : Nat → Bool) (g : Nat → V) (h : Er K tl σ H (.v (.str z))) (hz : z.length ≤ 40000) (hw : ∀ x, wipe ((wipe σ vs).set j (some x)) vs = wipe σ vs)
    (ht : ∀ (i : Nat) c H1, Ex H H1 → z.cps.toList[i]? = some c → EvT t ((wipe σ vs).set j (some (sgn c))) H1 (f c)) (he : ∀ (i : Nat) c H1, Ex H H1 → z.cps.toList[i]? = some c → f c = true → Er K te ((wipe σ vs).set j (some (sgn c))) H1 (.v (g c))) :
    Er K (tLc (iStr tl) (gName j) t te vs) σ H (.n ((z.cps.toList.filter f).map g)) := fun H0 e Q q => h H0 e _ fun w H1 e1 ew => by
  refine ⟨z, ew, fun Dl hD => ?_⟩
  refine lc_S (z := z) (Cv H1 z.cps.toList f g Dl) ⟨hD, Ex.new hD, upd_same⟩ (fun i c H' hc p => ?_) fun H' p => ?_
  · exact ⟨hw _, cv_turn p hc (by show z.cps.toList.length ≤ 50000; have : z.cps.toList.length = z.length := by simp [Str.length]
                                  omega) (Ex.refl _) (ht i c H1 (e.trans e1) hc) (fun hf => he i c H1 (e.trans e1) hc hf)⟩
  · obtain ⟨p1, p2, p3⟩ := p
    refine q _ H' (e1.trans p2) ⟨Dl, rfl, ?_⟩
    rw [p3, ← acc_all]
    simp
/-- [e for a, b in zip(one, two) if t], the names in slots j1, j2 -/
theorem er_lcZ {one two : Str} {j1 j2 : Nat} {vs : List Nat} (f : Nat × Nat → Bool) (g : Nat × Nat → V) (h : Era K ta σ H [.v (.str one), .v (.str two)]) (hz : one.length ≤ 40000) (hw : ∀ x y, wipe (((wipe σ vs).set j1 (some x)).set j2 (some y)) vs = wipe σ vs)
    (ht : ∀ (i : Nat) c1 c2 H1, Ex H H1 → one.cps[i]? = some c1 → two.cps[i]? = some c2 → EvT t (((wipe σ vs).set j1 (some (sgn c1))).set j2 (some (sgn c2))) H1 (f (c1, c2)))
    (he : ∀ (i : Nat) c1 c2 H1, Ex H H1 → one.cps[i]? = some c1 → two.cps[i]? = some c2 → f (c1, c2) = true → Er K te (((wipe σ vs).set j1 (some (sgn c1))).set j2 (some (sgn c2))) H1 (.v (g (c1, c2)))) :
    Er K (tLc (iZipS ta) (gTup K 2 (gCons (gName j1) (gCons (gName j2) gNil))) t te vs) σ H (.n (((one.cps.toList.zip two.cps.toList).filter f).map g)) := fun H0 e Q q => h H0 e _ fun ws H1 e1 z => by
  rcases z with _ | ⟨rfl, _ | ⟨rfl, _ | _⟩⟩
  refine ⟨one, two, rfl, fun Dl hD => ?_⟩
  refine lc_P (ps := zipS one two) (Cv H1 (one.cps.toList.zip two.cps.toList) f g Dl) ⟨hD, Ex.new hD, upd_same⟩ (fun i x y T H' hxy p hT => ?_) fun H' p => ?_
  · obtain ⟨c1, c2, h1, h2, e1', e2'⟩ := zipS_at hxy
    subst e1'
    subst e2'
    have hp : (one.cps.toList.zip two.cps.toList)[i]? = some (c1, c2) := List.getElem?_zip_eq_some (z := (c1, c2)) |>.mpr ⟨by simpa using h1, by simpa using h2⟩
    refine ⟨T, [_, _], rfl, st_of upd_same, rfl, _, [_], rfl, _, [], rfl, rfl, hw _ _, cv_turn p hp ?_ (Ex.new hT) (ht i c1 c2 H1 (e.trans e1) h1 h2) (fun hf => he i c1 c2 H1 (e.trans e1) h1 h2 hf)⟩
    rw [List.length_zip]
    have : one.cps.toList.length = one.length := by simp [Str.length]
    omega
  · obtain ⟨p1, p2, p3⟩ := p
    refine q _ H' (e1.trans p2) ⟨Dl, rfl, ?_⟩
    rw [p3, ← acc_all, zipS_len]
    simp
theorem enumS_at {x : Str} {i : Nat} {a b : V} (h : (enumS x)[i]? = some (a, b)) : ∃ c, x.cps.toList[i]? = some c ∧ a = .int (i : Int) ∧ b = sgn c := by
  have hl : i < (enumS x).length := (List.getElem?_eq_some_iff.mp h).1
  rw [enumS_len] at hl
  have e := enumS_get (x := x) (i := i) (c := x.cps[i]) (by simp [hl])
  rw [h] at e
  have e2 := Option.some.inj e
  injection e2 with e3 e4
  exact ⟨x.cps[i], by simp [hl], e3, e4⟩
/-- [e for k, c in enumerate(text) if t], the names in slots j1, j2 -/
theorem er_lcE {z : Str} {j1 j2 : Nat} {vs : List Nat} (f : Nat × Nat → Bool) (g : Nat × Nat → V) (h : Era K ta σ H [.v (.str z)]) (hz : z.length ≤ 40000) (hw : ∀ x y, wipe (((wipe σ vs).set j1 (some x)).set j2 (some y)) vs = wipe σ vs)
    (ht : ∀ (i : Nat) c H1, Ex H H1 → z.cps.toList[i]? = some c → EvT t (((wipe σ vs).set j1 (some (.int (i : Int)))).set j2 (some (sgn c))) H1 (f (c, i)))
    (he : ∀ (i : Nat) c H1, Ex H H1 → z.cps.toList[i]? = some c → f (c, i) = true → Er K te (((wipe σ vs).set j1 (some (.int (i : Int)))).set j2 (some (sgn c))) H1 (.v (g (c, i)))) :
    Er K (tLc (iEnumS ta) (gTup K 2 (gCons (gName j1) (gCons (gName j2) gNil))) t te vs) σ H (.n ((z.cps.toList.zipIdx.filter f).map g)) := fun H0 e Q q => h H0 e _ fun ws H1 e1 zz => by
  rcases zz with _ | ⟨rfl, _ | _⟩
  refine ⟨z, rfl, fun Dl hD => ?_⟩
  refine lc_P (ps := enumS z) (Cv H1 z.cps.toList.zipIdx f g Dl) ⟨hD, Ex.new hD, upd_same⟩ (fun i x y T H' hxy p hT => ?_) fun H' p => ?_
  · obtain ⟨c, h1, e1', e2'⟩ := enumS_at hxy
    subst e1'
    subst e2'
    have hp : z.cps.toList.zipIdx[i]? = some (c, i) := by rw [List.getElem?_zipIdx, h1]; simp
    refine ⟨T, [_, _], rfl, st_of upd_same, rfl, _, [_], rfl, _, [], rfl, rfl, hw _ _, cv_turn p hp ?_ (Ex.new hT) (ht i c H1 (e.trans e1) h1) (fun hf => he i c H1 (e.trans e1) h1 hf)⟩
    rw [List.length_zipIdx]
    have : z.cps.toList.length = z.length := by simp [Str.length]
    omega
  · obtain ⟨p1, p2, p3⟩ := p
    refine q _ H' (e1.trans p2) ⟨Dl, rfl, ?_⟩
    rw [p3, ← acc_all, enumS_len]
    simp
end
end Mi

set_option maxHeartbeats 2000000
namespace Mi
open PySem PySem.Spec PyProof.Rows L2 Evl

/-! ### a text by its codes -/
def S (l : List Nat) : Str := ⟨l.toArray⟩
theorem S_list (l : List Nat) : (S l).cps.toList = l := rfl
theorem S_len (l : List Nat) : (S l).length = l.length := by simp [S, Str.length]
theorem S_size (l : List Nat) : (S l).cps.size = l.length := by simp [S]
theorem S_of (x : Str) : S x.cps.toList = x := str_ext rfl
theorem S_inj {a b : List Nat} (h : S a = S b) : a = b := by
  exact congrArg (fun x : Str => x.cps.toList) h
theorem S_eq {a b : List Nat} : (V.str (S a) = V.str (S b)) ↔ a = b := ⟨fun h => S_inj (V.str.inj h), fun h => by rw [h]⟩
theorem S_app (a b : List Nat) : S a ++ S b = S (a ++ b) := str_ext (by
  show ((S a).cps ++ (S b).cps).toList = a ++ b
  simp [S])
theorem S_one (c : Nat) : (⟨#[c]⟩ : Str) = S [c] := rfl
theorem S_reps (a : List Nat) (n : Nat) : reps (S a) n = S (List.replicate n a).flatten := rfl
theorem S_at {l : List Nat} {i : Nat} : (S l).cps[i]? = l[i]? := by simp [S]
theorem join_ones (cs : List Nat) : Txt.join (S []) (cs.map fun c => S [c]) = S cs := by
  show Builtin.Str.glued (S []) (cs.map fun c => S [c]) = S cs
  rw [StrLaws.glued_eq_join]
  induction cs with
  | nil => rfl
  | cons c r ih =>
    cases r with
    | nil => rfl
    | cons c2 r2 =>
      show S [c] ++ S [] ++ Str.join (S []) ((c2 :: r2).map fun c => S [c]) = S (c :: c2 :: r2)
      rw [ih, S_app, S_app]
      simp

section
variable {K : PySem.W.Frag} {σ : L2.St} {H H' : Hp} {te ta tb tc : TE} {t u : TT} {tr : TA} {d d1 d2 d' : Dd} {x y : V} {r : R2}
def Dd.val : Dd → V
  | .v x => x
  | _ => .non
theorem er_lst' {ds : List Dd} (h : Era K tr σ H ds) (hd : ds = (ds.map Dd.val).map Dd.v) (hl : ds.length ≤ 100000) : Er K (tLst tr) σ H (.n (ds.map Dd.val)) := by
  rw [hd] at h
  exact er_lst h (by rw [List.length_map]; exact hl)
theorem er_tup' {ds : List Dd} (h : Era K tr σ H ds) (hd : ds = (ds.map Dd.val).map Dd.v) (hl : ds.length ≤ 100000) : Er K (tTup tr) σ H (.u (ds.map Dd.val)) := by
  rw [hd] at h
  exact er_tup h (by rw [List.length_map]; exact hl)
theorem ro_mulL {i j : Int} (h1 : -18446744073709551616 < i) (h2 : i < 18446744073709551616) : Ro K (rI CMul fun i j => .int (i * j)) (.v (.int i)) (.v (.int j)) (.v (.int (i * j))) := ro_I (.inl ⟨h1, h2⟩)
theorem ro_mulR {i j : Int} (h1 : -18446744073709551616 < j) (h2 : j < 18446744073709551616) : Ro K (rI CMul fun i j => .int (i * j)) (.v (.int i)) (.v (.int j)) (.v (.int (i * j))) := ro_I (.inr ⟨h1, h2⟩)
theorem ro_div {i j : Int} (h1 : 0 < j) (h2 : j < 1073741824) : Ro K (rI CDiv fun i j => .int (i / j)) (.v (.int i)) (.v (.int j)) (.v (.int (i / j))) := ro_I ⟨h1, h2⟩
theorem ro_mod {i j : Int} (h1 : 0 < j) : Ro K (rI (fun _ j => 0 < j) fun i j => .int (i % j)) (.v (.int i)) (.v (.int j)) (.v (.int (i % j))) := ro_I h1
theorem ro_ixI {ns : List Int} {i : Int} (h0 : 0 ≤ i) (h1 : i < ns.length) : Ro K (rIxL K) (.l (vis ns)) (.v (.int i)) (.v (.int (ns.getD i.toNat 0))) := by
  refine ro_ixL h0 ?_
  have h2 : i.toNat < ns.length := by omega
  rw [List.getElem?_map, List.getD_eq_getElem?_getD, List.getElem?_eq_getElem h2]
  rfl
theorem ro_ixIN {ns : List Int} {i : Int} (h0 : 0 ≤ i) (h1 : i < ns.length) : Ro K (rIxL K) (.n (vis ns)) (.v (.int i)) (.v (.int (ns.getD i.toNat 0))) := fun v w H1 a b => ro_ixI h0 h1 v w H1 a.n2l b
theorem ro_ixT2 {ys : List Str} {i : Int} (h0 : 0 ≤ i) (h1 : i < ys.length) : Ro K (rIxL K) (.l (vss ys)) (.v (.int i)) (.v (.str (ys.getD i.toNat Str.empty))) := by
  refine ro_ixL h0 ?_
  have h2 : i.toNat < ys.length := by omega
  rw [List.getElem?_map, List.getD_eq_getElem?_getD, List.getElem?_eq_getElem h2]
  rfl
theorem ro_ixG {xs : List V} {i : Int} (h0 : 0 ≤ i) (h1 : i < xs.length) : Ro K (rIxL K) (.n xs) (.v (.int i)) (.v (xs.getD i.toNat .non)) := by
  refine ro_ixN h0 ?_
  have h2 : i.toNat < xs.length := by omega
  rw [List.getD_eq_getElem?_getD, List.getElem?_eq_getElem h2]
  rfl
theorem ro_ixC {l : List Nat} {i : Int} (h0 : 0 ≤ i) (h1 : i < l.length) (hz : l.length ≤ 100000) : Ro K rIxS (.v (.str (S l))) (.v (.int i)) (.v (.str (S [l.getD i.toNat 0]))) := by
  refine ro_ixS (by rw [S_len]; exact hz) h0 ?_
  have h2 : i.toNat < l.length := by omega
  rw [S_list, List.getD_eq_getElem?_getD, List.getElem?_eq_getElem h2]
  rfl
theorem ro_addC {a b : List Nat} (h : a.length + b.length ≤ 100000) : Ro K rAddS2 (.v (.str (S a))) (.v (.str (S b))) (.v (.str (S (a ++ b)))) := by
  rw [← S_app]
  exact ro_addS (by rw [S_len, S_len]; exact h)
theorem ro_mulC {a : List Nat} {n : Nat} (hn : n ≤ 1000) (ha : a.length ≤ 1000) : Ro K rMulS (.v (.str (S a))) (.v (.int (n : Int))) (.v (.str (S (List.replicate n a).flatten))) := by
  rw [← S_reps]
  exact ro_mulS hn (by rw [S_len]; exact ha)
theorem ro_eqC {a b : List Nat} : Ro K rEq (.v (.str (S a))) (.v (.str (S b))) (.v (.bl (decide (a = b)))) := by
  have e : decide (V.str (S a) = V.str (S b)) = decide (a = b) := by rw [decide_eq_decide]; exact S_eq
  rw [← e]
  exact ro_eq rfl
theorem ro_neC {a b : List Nat} : Ro K rNe (.v (.str (S a))) (.v (.str (S b))) (.v (.bl (!decide (a = b)))) := by
  have e : decide (V.str (S a) = V.str (S b)) = decide (a = b) := by rw [decide_eq_decide]; exact S_eq
  rw [← e]
  exact ro_ne rfl
theorem ro_eqI {a b : Int} : Ro K rEq (.v (.int a)) (.v (.int b)) (.v (.bl (decide (a = b)))) := by
  have e : decide (V.int a = V.int b) = decide (a = b) := by rw [decide_eq_decide]; exact ⟨V.int.inj, fun h => by rw [h]⟩
  rw [← e]
  exact ro_eq rfl
theorem ro_neI {a b : Int} : Ro K rNe (.v (.int a)) (.v (.int b)) (.v (.bl (!decide (a = b)))) := by
  have e : decide (V.int a = V.int b) = decide (a = b) := by rw [decide_eq_decide]; exact ⟨V.int.inj, fun h => by rw [h]⟩
  rw [← e]
  exact ro_ne rfl
theorem ro_eqB {a b : Bool} : Ro K rEq (.v (.bl a)) (.v (.bl b)) (.v (.bl (decide (a = b)))) := by
  have e : decide (V.bl a = V.bl b) = decide (a = b) := by rw [decide_eq_decide]; exact ⟨V.bl.inj, fun h => by rw [h]⟩
  rw [← e]
  exact ro_eq rfl
theorem ro_neB {a b : Bool} : Ro K rNe (.v (.bl a)) (.v (.bl b)) (.v (.bl (!decide (a = b)))) := by
  have e : decide (V.bl a = V.bl b) = decide (a = b) := by rw [decide_eq_decide]; exact ⟨V.bl.inj, fun h => by rw [h]⟩
  rw [← e]
  exact ro_ne rfl
theorem rc_lenC {z : List Nat} (hz : z.length ≤ 100000) : Rc K rLenStr [.v (.str (S z))] (.v (.int (z.length : Int))) := by
  have h := rc_lenS (K := K) (z := S z) (by rw [S_len]; exact hz)
  rw [S_len] at h
  exact h
theorem rc_lenI {ns : List Int} : Rc K (rLenS K) [.l (vis ns)] (.v (.int (ns.length : Int))) := by
  have h := rc_lenL (K := K) (xs := vis ns)
  rw [List.length_map] at h
  exact h
theorem rc_lenT {ns : List Str} : Rc K (rLenS K) [.l (vss ns)] (.v (.int (ns.length : Int))) := by
  have h := rc_lenL (K := K) (xs := vss ns)
  rw [List.length_map] at h
  exact h
theorem rc_lenIN {ns : List Int} : Rc K (rLenS K) [.n (vis ns)] (.v (.int (ns.length : Int))) := by
  have h := rc_lenN (K := K) (xs := vis ns)
  rw [List.length_map] at h
  exact h
theorem rc_lenTN {ns : List Str} : Rc K (rLenS K) [.n (vss ns)] (.v (.int (ns.length : Int))) := by
  have h := rc_lenN (K := K) (xs := vss ns)
  rw [List.length_map] at h
  exact h
/-- ''.join of texts of one sign each -/
theorem rm_joinC {cs : List Nat} (hz : cs.length ≤ 100000) : Rm K "str" (rJoin K) (.v (.str (S []))) [.n (cs.map fun c => V.str (S [c]))] (.v (.str (S cs))) := by
  have h := rm_join (K := K) (a := S []) (ys := cs.map fun c => S [c]) (by
    rw [List.map_map, List.length_map, S_len]
    have e : ((fun x : Str => x.length) ∘ fun c => S [c]) = fun _ => 1 := by funext c; exact S_len [c]
    rw [e, List.map_const']
    simp
    exact hz)
  rw [join_ones] at h
  have e : vss (cs.map fun c => S [c]) = cs.map fun c => V.str (S [c]) := by rw [vss, List.map_map]; rfl
  rw [e] at h
  exact h
end

/-! ### a def of the text -/
structure At (K : PySem.W.Frag) (mg : Str → Option Value) (x : Str) (st : Stmt) (ps : List Str) : Prop where
  ex : ∃ f fd, mg x = some (.ref f) ∧ Fun K x x st f fd ∧ Binds K fd ps [] ∧
    (ps.length = 1 → ∀ (s : Shared) (w1 : Value), BindsTo s fd ⟨[], ps.zip [w1]⟩ (ps.zip [w1])) ∧
    (∀ p q, ps = [p, q] → ∀ (s : Shared) (w1 w2 : Value), BindsTo s fd ⟨[], [q, p].zip [w1, w2]⟩ ([p, q].zip [w2, w1]))
theorem IsAll.len {K : PySem.W.Frag} {H : Hp} : ∀ {ds : List Dd} {vs : List V}, IsAll K H ds vs → ds.length = vs.length
  | _, _, .nil => rfl
  | _, _, .cons _ b => congrArg (· + 1) (IsAll.len b)
theorem At.hasR {P : Program} {w : World} {K : PySem.W.Frag} {mg : Str → Option Value} {base : Heap} {x : Str} {st : Stmt} {N ps : List Str} {k : Nat} {T : Type} {pre : T → Prop} {args : T → List Dd} {ret : T → Dd}
    (h : At K mg x st ps) (Sc : FnScope N ps (defScope st)) (hl : ∀ a, (args a).length = ps.length)
    (hbody : ∀ (f : Addr) (cdv : Value) (A : Around) (outer : List Env) (s : Shared) (H : Hp) (a : T) (vs : List V) (Q : VK) (E : XK), Room k (A.deeper (envOfC x (defScope st) s.heap.objs.size f cdv)) → pre a → IsAll K H (args a) vs →
      (∀ v H', Ex H H' → Is K H' (ret a) v → Q v H') →
      ∃ t, PSs (cxOf CX0 P w K mg base N x (defScope st) f cdv A outer s H E).nox (defBody st) t ∧ t { nx := fun _ H' => Q .non H', rt := Q } (start N vs) H) :
    Has P w K mg base (k + 1) x ps (spR K pre args ret) := by
  obtain ⟨f, fd, hm, F, b0, b1, b2⟩ := h.ex
  refine ⟨f, fd, hm, F.kp, F.ok Sc (fun vs H Q E hsp => ?_) (fun cdv A outer s H vs Q E hr hsp => ?_), b0, b1, b2⟩
  · obtain ⟨a, _, hv, _⟩ := hsp
    rw [← hv.len, hl]
  · obtain ⟨a, hp, hv, hk⟩ := hsp
    exact hbody f cdv A outer s H a vs Q E hr hp hv hk
theorem Has.mono {P : Program} {w : World} {K : PySem.W.Frag} {mg : Str → Option Value} {base : Heap} {j k : Nat} {x : Str} {ps : List Str} {sp : Sp} (h : Has P w K mg base j x ps sp) (hj : j ≤ k) : Has P w K mg base k x ps sp := by
  obtain ⟨f, fd, a, b, c, d⟩ := h.ex
  exact ⟨f, fd, a, b, c.mono hj, d⟩

/-! ### the same, over texts by their codes -/
section
variable {K : PySem.W.Frag} {σ : L2.St} {H H' : Hp} {te tl : TE} {t : TT} {ta : TA} {D : Ends} {tu tz : TS}
theorem c_forZ {j1 j2 : Nat} {one two : List Nat} (h : Era K ta σ H [.s (S one), .s (S two)]) (Pv : Nat → L2.St → Hp → Prop) (h0 : ∀ H1, Ex H H1 → Pv 0 σ H1)
    (hs : ∀ (i : Nat) c1 c2 σ' H' H2, one[i]? = some c1 → two[i]? = some c2 → Pv i σ' H' → Ex H' H2 → tu { D with nx := Pv (i + 1), ct := Pv (i + 1), bk := tz D } ((σ'.set j1 (some (.str (S [c1])))).set j2 (some (.str (S [c2])))) H2)
    (hd : ∀ σ' H', Pv (min one.length two.length) σ' H' → tz D σ' H') : tSeq (tFor (iZipS ta) (gTup K 2 (gCons (gName j1) (gCons (gName j2) gNil))) tu) tz D σ H :=
  b_forZ h Pv h0 (fun i c1 c2 σ' H' H2 h1 h2 => hs i c1 c2 σ' H' H2 (by rw [← S_at]; exact h1) (by rw [← S_at]; exact h2)) (by rw [S_len, S_len]; exact hd)
theorem c_lcZ {one two : List Nat} {j1 j2 : Nat} {vs : List Nat} (f : Nat × Nat → Bool) (g : Nat × Nat → V) (h : Era K ta σ H [.s (S one), .s (S two)]) (hz : one.length ≤ 40000) (hw : ∀ x y, wipe (((wipe σ vs).set j1 (some x)).set j2 (some y)) vs = wipe σ vs)
    (ht : ∀ (i : Nat) c1 c2 H1, Ex H H1 → one[i]? = some c1 → two[i]? = some c2 → EvT t (((wipe σ vs).set j1 (some (.str (S [c1])))).set j2 (some (.str (S [c2])))) H1 (f (c1, c2)))
    (he : ∀ (i : Nat) c1 c2 H1, Ex H H1 → one[i]? = some c1 → two[i]? = some c2 → f (c1, c2) = true → Er K te (((wipe σ vs).set j1 (some (.str (S [c1])))).set j2 (some (.str (S [c2])))) H1 (.v (g (c1, c2)))) :
    Er K (tLc (iZipS ta) (gTup K 2 (gCons (gName j1) (gCons (gName j2) gNil))) t te vs) σ H (.n (((one.zip two).filter f).map g)) :=
  er_lcZ (one := S one) (two := S two) f g h (by rw [S_len]; exact hz) hw (fun i c1 c2 H1 e h1 h2 => ht i c1 c2 H1 e (by rw [← S_at]; exact h1) (by rw [← S_at]; exact h2)) (fun i c1 c2 H1 e h1 h2 => he i c1 c2 H1 e (by rw [← S_at]; exact h1) (by rw [← S_at]; exact h2))
theorem c_lcE {z : List Nat} {j1 j2 : Nat} {vs : List Nat} (f : Nat × Nat → Bool) (g : Nat × Nat → V) (h : Era K ta σ H [.s (S z)]) (hz : z.length ≤ 40000) (hw : ∀ x y, wipe (((wipe σ vs).set j1 (some x)).set j2 (some y)) vs = wipe σ vs)
    (ht : ∀ (i : Nat) c H1, Ex H H1 → z[i]? = some c → EvT t (((wipe σ vs).set j1 (some (.int (i : Int)))).set j2 (some (.str (S [c])))) H1 (f (c, i)))
    (he : ∀ (i : Nat) c H1, Ex H H1 → z[i]? = some c → f (c, i) = true → Er K te (((wipe σ vs).set j1 (some (.int (i : Int)))).set j2 (some (.str (S [c])))) H1 (.v (g (c, i)))) :
    Er K (tLc (iEnumS ta) (gTup K 2 (gCons (gName j1) (gCons (gName j2) gNil))) t te vs) σ H (.n ((z.zipIdx.filter f).map g)) :=
  er_lcE (z := S z) f g h (by rw [S_len]; exact hz) hw ht he
theorem c_lcS {z : List Nat} {j : Nat} {vs : List Nat} (f : Nat → Bool) (g : Nat → V) (h : Er K tl σ H (.s (S z))) (hz : z.length ≤ 40000) (hw : ∀ x, wipe ((wipe σ vs).set j (some x)) vs = wipe σ vs)
    (ht : ∀ (i : Nat) c H1, Ex H H1 → z[i]? = some c → EvT t ((wipe σ vs).set j (some (.str (S [c])))) H1 (f c)) (he : ∀ (i : Nat) c H1, Ex H H1 → z[i]? = some c → f c = true → Er K te ((wipe σ vs).set j (some (.str (S [c])))) H1 (.v (g c))) :
    Er K (tLc (iStr tl) (gName j) t te vs) σ H (.n ((z.filter f).map g)) :=
  er_lcS (z := S z) f g h (by rw [S_len]; exact hz) hw ht he
/-- an if without else whose branch always leaves, behind it the rest -/
theorem q_leave {b : Bool} (h : EvT t σ H b) (h1 : b = true → ∀ H1, Ex H H1 → tu { D with nx := tz D } σ H1) (h2 : b = false → ∀ H1, Ex H H1 → tz D σ H1) : tSeq (tIfS t tu tNext) tz D σ H := q_when h h1 h2
end

/-! ### tests that carry K -/
def Et (_K : PySem.W.Frag) (t : TT) (σ : L2.St) (H : Hp) (b : Bool) : Prop := EvT t σ H b
section
variable {K : PySem.W.Frag} {σ : L2.St} {H H' : Hp} {te ta tb : TE} {t u : TT} {a b : Bool} {d : Dd} {D : Ends} {tu tw tz : TS} {x y : V}
theorem et1 (h : Er K te σ H (.b b)) : Et K (tTest te) σ H b := et_t h
theorem et2 (h : Er K te σ H (.b b)) : Et K (tB te) σ H b := et_v h
theorem et_an (h1 : Et K t σ H a) (h2 : a = true → Et K u σ H b) : Et K (tAnd t u) σ H (a && b) := et_and h1 h2
theorem et_orr (h1 : Et K t σ H a) (h2 : a = false → Et K u σ H b) : Et K (tOr t u) σ H (a || b) := et_or h1 h2
theorem et_nt (h1 : Et K t σ H a) : Et K (tNot t) σ H (!a) := et_not h1
theorem Et.to (h : Et K t σ H a) (e : a = b) : Et K t σ H b := e ▸ h
theorem er_iff (h : Et K t σ H b) (h1 : b = true → Er K ta σ H d) (h2 : b = false → Er K tb σ H d) : Er K (tIf t ta tb) σ H d := er_if h h1 h2
/-- a if t else b, two values of one kind -/
theorem er_ite {xa xb : V} (h : Et K t σ H b) (h1 : b = true → Er K ta σ H (.v xa)) (h2 : b = false → Er K tb σ H (.v xb)) : Er K (tIf t ta tb) σ H (.v (if b = true then xa else xb)) := er_if h (fun hb => by rw [if_pos hb]; exact h1 hb) (fun hb => by rw [if_neg (by rw [hb]; exact Bool.false_ne_true)]; exact h2 hb)
theorem a_when (h : Et K t σ H b) (h1 : b = true → ∀ H1, Ex H H1 → tu { D with nx := tz D } σ H1) (h2 : b = false → ∀ H1, Ex H H1 → tz D σ H1) : tSeq (tIfS t tu tNext) tz D σ H := q_when h h1 h2
theorem a_when1 (h : Et K t σ H b) (h1 : b = true → ∀ H1, Ex H H1 → tu D σ H1) (h2 : b = false → ∀ H1, Ex H H1 → D.nx σ H1) : tIfS t tu tNext D σ H := s_when h h1 h2
theorem a_if (h : Et K t σ H b) (h1 : b = true → ∀ H1, Ex H H1 → tu { D with nx := tz D } σ H1) (h2 : b = false → ∀ H1, Ex H H1 → tw { D with nx := tz D } σ H1) : tSeq (tIfS t tu tw) tz D σ H := q_if h h1 h2
theorem a_if1 (h : Et K t σ H b) (h1 : b = true → ∀ H1, Ex H H1 → tu D σ H1) (h2 : b = false → ∀ H1, Ex H H1 → tw D σ H1) : tIfS t tu tw D σ H := s_if h h1 h2
/-- if c: x = e: told by what x holds behind it -/
theorem a_ifAsg {i : Nat} (h : Et K t σ H b) (h1 : b = true → Er K te σ H (.v x)) (h2 : b = false → σ.set i (some x) = σ) (k : ∀ H1, Ex H H1 → tz D (σ.set i (some x)) H1) : tSeq (tIfS t (tAsg te (gName i)) tNext) tz D σ H :=
  a_when h (fun hb H1 e1 => a_asg1 (D := { D with nx := tz D }) ((h1 hb).mono e1) fun v H2 e2 z => by
    have ez : v = x := z
    subst ez
    exact k H2 (e1.trans e2)) (fun hb H1 e1 => by
    have g := k H1 e1
    rw [h2 hb] at g
    exact g)
end
theorem filt_true {α : Type} (l : List α) : l.filter (fun _ => true) = l := List.filter_eq_self.mpr fun _ _ => rfl
theorem c_lcZ' {K : PySem.W.Frag} {σ : L2.St} {H : Hp} {te : TE} {ta : TA} {one two : List Nat} {j1 j2 : Nat} {vs : List Nat} (g : Nat × Nat → V) (h : Era K ta σ H [.s (S one), .s (S two)]) (hz : one.length ≤ 40000) (hw : ∀ x y, wipe (((wipe σ vs).set j1 (some x)).set j2 (some y)) vs = wipe σ vs)
    (he : ∀ (i : Nat) c1 c2 H1, Ex H H1 → one[i]? = some c1 → two[i]? = some c2 → Er K te (((wipe σ vs).set j1 (some (.str (S [c1])))).set j2 (some (.str (S [c2])))) H1 (.v (g (c1, c2)))) :
    Er K (tLc (iZipS ta) (gTup K 2 (gCons (gName j1) (gCons (gName j2) gNil))) tYes te vs) σ H (.n ((one.zip two).map g)) := by
  have := c_lcZ (K := K) (t := tYes) (te := te) (fun _ => true) g h hz hw (fun i c1 c2 H1 _ _ _ => fun H2 e Q q => q H2 (Ex.refl _)) (fun i c1 c2 H1 e h1 h2 _ => he i c1 c2 H1 e h1 h2)
  rwa [filt_true] at this
theorem c_lcE' {K : PySem.W.Frag} {σ : L2.St} {H : Hp} {te : TE} {ta : TA} {z : List Nat} {j1 j2 : Nat} {vs : List Nat} (g : Nat × Nat → V) (h : Era K ta σ H [.s (S z)]) (hz : z.length ≤ 40000) (hw : ∀ x y, wipe (((wipe σ vs).set j1 (some x)).set j2 (some y)) vs = wipe σ vs)
    (he : ∀ (i : Nat) c H1, Ex H H1 → z[i]? = some c → Er K te (((wipe σ vs).set j1 (some (.int (i : Int)))).set j2 (some (.str (S [c])))) H1 (.v (g (c, i)))) :
    Er K (tLc (iEnumS ta) (gTup K 2 (gCons (gName j1) (gCons (gName j2) gNil))) tYes te vs) σ H (.n (z.zipIdx.map g)) := by
  have := c_lcE (K := K) (t := tYes) (te := te) (fun _ => true) g h hz hw (fun i c H1 _ _ => fun H2 e Q q => q H2 (Ex.refl _)) (fun i c H1 e h1 _ => he i c H1 e h1)
  rwa [filt_true] at this
theorem c_lcS' {K : PySem.W.Frag} {σ : L2.St} {H : Hp} {te tl : TE} {z : List Nat} {j : Nat} {vs : List Nat} (g : Nat → V) (h : Er K tl σ H (.s (S z))) (hz : z.length ≤ 40000) (hw : ∀ x, wipe ((wipe σ vs).set j (some x)) vs = wipe σ vs)
    (he : ∀ (i : Nat) c H1, Ex H H1 → z[i]? = some c → Er K te ((wipe σ vs).set j (some (.str (S [c])))) H1 (.v (g c))) :
    Er K (tLc (iStr tl) (gName j) tYes te vs) σ H (.n (z.map g)) := by
  have := c_lcS (K := K) (t := tYes) (te := te) (fun _ => true) g h hz hw (fun i c H1 _ _ => fun H2 e Q q => q H2 (Ex.refl _)) (fun i c H1 e h1 _ => he i c H1 e h1)
  rwa [filt_true] at this
theorem er_lcR' {K : PySem.W.Frag} {σ : L2.St} {H : Hp} {te : TE} {ta : TA} {n j : Nat} {vs : List Nat} (g : Nat → V) (h : Era K ta σ H [.v (.int (n : Int))]) (hn : n ≤ 40000) (hw : ∀ x, wipe ((wipe σ vs).set j (some x)) vs = wipe σ vs)
    (he : ∀ i H1, Ex H H1 → i < n → Er K te ((wipe σ vs).set j (some (.int (i : Int)))) H1 (.v (g i))) :
    Er K (tLc (iRng1 ta) (gName j) tYes te vs) σ H (.n ((List.range n).map g)) := by
  have := er_lcR (K := K) (t := tYes) (te := te) (fun _ => true) g h hn hw (fun i H1 _ _ => fun H2 e Q q => q H2 (Ex.refl _)) (fun i H1 e h1 _ => he i H1 e h1)
  rwa [filt_true] at this

/-- a written text by its codes -/
theorem pe_strS {X : Cx} {x : Str} {j : Nat} {pos : Pos} (l : List Nat) (h : x = S l) : PE X (.Constant (.str x) j pos) (tC (.str (S l))) := by
  rw [← h]
  exact pe_str
/-- an if-elif chain's join is left to the reader -/
theorem Er.ofv {K : PySem.W.Frag} {te : TE} {σ : L2.St} {H : Hp} {x y : V} (h : Er K te σ H (.v x)) (e : x = y) : Er K te σ H (.v y) := e ▸ h
example : (("-abc" : Str) = S [45, 97, 98, 99]) := by decide +kernel
example : (("-abc" : Str) = S [45, 97, 98, 99]) := by rfl

section
variable {K : PySem.W.Frag} {σ : L2.St} {H H0 H' : Hp} {te ta tb : TE} {t u : TT} {a b : Bool} {d d' : Dd} {D : Ends} {tu tw tz : TS} {x y : V}
theorem a_rete (h : Er K te σ H d) (hd : d = d') (e0 : Ex H0 H) (hk : ∀ v H', Ex H0 H' → Is K H' d' v → D.rt v H') : tRet te D σ H := a_ret h fun v H1 e z => hk v H1 (e0.trans e) (hd ▸ z)
theorem a_setv {i : Nat} (h : Er K te σ H (.v x)) (k : ∀ H1, Ex H H1 → tz D (σ.set i (some x)) H1) : tSeq (tAsg te (gName i)) tz D σ H := a_asg h fun v H1 e z => by
  have ez : v = x := z
  subst ez
  exact k H1 e
theorem a_setv1 {i : Nat} (h : Er K te σ H (.v x)) (k : ∀ H1, Ex H H1 → D.nx (σ.set i (some x)) H1) : tAsg te (gName i) D σ H := a_asg1 h fun v H1 e z => by
  have ez : v = x := z
  subst ez
  exact k H1 e
end
theorem inV_int (i : Int) (cs : List Int) : inV (.int i) (vis cs) = decide (i ∈ cs) := by
  unfold inV vis
  rw [List.any_map, Bool.eq_iff_iff, List.any_eq_true]
  simp only [Function.comp_apply, decide_eq_true_eq]
  constructor
  · rintro ⟨x, hx, h⟩
    have e : x = i := by simpa [eqV] using h
    exact e ▸ hx
  · intro h
    exact ⟨i, h, by simp [eqV]⟩
theorem flat_vis (cs : List Int) : (vis cs).all flatV = true := by
  rw [List.all_eq_true]
  intro x hx
  obtain ⟨n, _, rfl⟩ := List.mem_map.mp hx
  rfl
theorem replC (a : List Nat) (b c : Nat) : Txt.replace (S a) (S [b]) (S [c]) = S (a.map fun x => if x = b then c else x) := str_ext (by
  rw [StrLaws.replace_list (by rw [S_len]; exact Nat.le_refl 1)]
  exact replL_one b c a)
section
variable {K : PySem.W.Frag}
theorem ro_inLi {i : Int} {cs : List Int} : Ro K (rIn K false) (.v (.int i)) (.l (vis cs)) (.b (decide (i ∈ cs))) := by
  have h := ro_inL (K := K) (neg := false) (x := .int i) (xs := vis cs) rfl (flat_vis cs)
  rw [if_neg Bool.false_ne_true, inV_int] at h
  exact h
theorem ro_inNi {i : Int} {cs : List Int} : Ro K (rIn K false) (.v (.int i)) (.n (vis cs)) (.b (decide (i ∈ cs))) := fun v w H1 a b => ro_inLi v w H1 a b.n2l
theorem ro_inUi {i : Int} {cs : List Int} : Ro K (rIn K false) (.v (.int i)) (.u (vis cs)) (.b (decide (i ∈ cs))) := by
  have h := ro_inU (K := K) (neg := false) (x := .int i) (xs := vis cs) rfl (flat_vis cs)
  rw [if_neg Bool.false_ne_true, inV_int] at h
  exact h
end

/-! ### rules that name K (for use within a comprehension) -/
section
variable {X : Cx} {K : PySem.W.Frag}
theorem op_in_k (h : X.K = K := by rfl) : OpR X (compareOp .In) (rIn K false) := h ▸ op_in_seq
theorem op_notIn_k (h : X.K = K := by rfl) : OpR X (compareOp .NotIn) (rIn K true) := h ▸ op_notIn_seq
theorem op_eqD_k (hu : X.A.units + 64 < cLine) (h : X.K = K := by rfl) : OpR X (compareOp .Eq) (rEqD K) := h ▸ op_eqD hu
theorem op_neD_k (hu : X.A.units + 64 < cLine) (h : X.K = K := by rfl) : OpR X (compareOp .NotEq) (rNeD K) := h ▸ op_neD hu
theorem ix_list_k (h : X.K = K := by rfl) : IxR X (rIxL K) := h ▸ ix_list
theorem ix_tup_k (h : X.K = K := by rfl) : IxR X (rIxT K) := h ▸ ix_tup
theorem sl_list_k (h : X.K = K := by rfl) : SlR X (rSlL K) := h ▸ sl_list
theorem cr_len_k (h : X.K = K := by rfl) : CallR X (.builtin "len") (rLenS K) := h ▸ cr_len
theorem cr_list_k (h : X.K = K := by rfl) : CallR X (.type "list") (rListS K) := h ▸ cr_list
theorem cr_tuple_k (h : X.K = K := by rfl) : CallR X (.type "tuple") (rTupS K) := h ▸ cr_tuple
theorem cr_isi_k (h : X.K = K := by rfl) : CallR X (.builtin "isinstance") (rIsi K) := h ▸ cr_isi
theorem mt_join_k (h : X.K = K := by rfl) : MtR X "str.join" (rJoin K) := h ▸ mt_joinN
theorem mt_count_k (h : X.K = K := by rfl) : MtR X "list.count" (rCntS K) := h ▸ mt_scount
theorem pi_list_k {tg l : Expr} {tl : TE} (h : PE X l tl) (hK : X.K = K := by rfl) : PI X tg l (iList K tl) := hK ▸ pi_list h
theorem pi_tup_k {tg l : Expr} {tl : TE} (h : PE X l tl) (hK : X.K = K := by rfl) : PI X tg l (iTup K tl) := hK ▸ pi_tup h
theorem pe_bm_k {o e : Expr} {es : List Expr} {to : TE} {t : TA} {name : Str} {apos cpos : Pos} {T id : String} {r : V → List V → Hp → VK → Prop} (pa : PlainAttrs T) (slot : Slot T name id) (hty : typeOf (.builtin id) = pure (.type "method_descriptor")) (hm : MtR X id r) (ho : PE X o to) (ha : PA X (e :: es) t)
    (hK : X.K = K := by rfl) (hbase : attributeBase o name X.env (eval o X.env) = eval o X.env := by rfl)
    (hfew : ((backTo cpos (starEach (e :: es) X.env)).all (fun x => !x.1) && (backToKw cpos (keywordEach [] X.env)).all (fun x => x.1.isSome)
      && decide ((e :: es).length + ([] : List Keyword).length + (if ([] : List Keyword).isEmpty then 0 else 1) < 30)) = true := by rfl)
    (hline : (apos.endLine == cpos.line) = true := by rfl) (hs : starEach (e :: es) X.env = (false, eval e X.env) :: starEach es X.env := by rfl) (hplain : (backTo cpos (starEach es X.env)).any (·.1) = false := by rfl) :
    PE X (.Call (.Attribute o name apos) (e :: es) [] cpos) (tBM K T r to t) := hK ▸ pe_bm pa slot hty hm ho ha hbase hfew hline hs hplain
end

theorem ro_1018 {K : PySem.W.Frag} : Ro K (rI CPow fun i j => .int (i ^ j.toNat)) (.v (.int 10)) (.v (.int 18)) (.v (.int 1000000000000000000)) := ro_I (K := K) (C := CPow) (g := fun i j => .int (i ^ j.toNat)) (i := 10) (j := 18) ⟨by decide, by decide, by decide⟩
theorem getD_vis {ns : List Int} {j : Nat} (h : j < ns.length) : (vis ns).getD j .non = .int (ns.getD j 0) := by
  rw [List.getD_eq_getElem?_getD, List.getD_eq_getElem?_getD, List.getElem?_map, List.getElem?_eq_getElem h]
  rfl
theorem vis_at {ns : List Int} {i : Nat} {x : V} (h : (vis ns)[i]? = some x) : ∃ n, ns[i]? = some n ∧ V.int n = x := by
  rw [List.getElem?_map] at h
  cases q : ns[i]? with
  | none => rw [q] at h; cases h
  | some n => rw [q] at h; exact ⟨n, rfl, Option.some.inj h⟩
theorem map_take_next {α β : Type} {l : List α} {f : α → β} {i : Nat} {x : α} (h : l[i]? = some x) : (l.take (i + 1)).map f = (l.take i).map f ++ [f x] := by
  rw [List.take_add_one, h, List.map_append]
  rfl
theorem zipIdx_at {α : Type} {l : List α} {i : Nat} {x : α} (h : l[i]? = some x) : l.zipIdx[i]? = some (x, i) := by
  rw [List.getElem?_zipIdx, h]
  simp

theorem vis_app (a : List Int) (n : Int) : vis (a ++ [n]) = vis a ++ [.int n] := by
  rw [vis, List.map_append]
  rfl
theorem vss_app (a : List Str) (n : Str) : vss (a ++ [n]) = vss a ++ [.str n] := by
  rw [vss, List.map_append]
  rfl

section
variable {K : PySem.W.Frag} {σ : L2.St} {H : Hp} {te ta tb tc : TE} {x y : V} {b : Bool}
/-- [x, y][int(b)] -/
theorem er_pick (h1 : Er K ta σ H (.v x)) (h2 : Er K tb σ H (.v y)) (hb : Er K tc σ H (.b b)) : Er K (tOp (rIxL K) (tLst (tCons ta (tCons tb tNil))) (tCB rInt1 (tCons tc tNil))) σ H (.v (if b = true then y else x)) := by
  refine er_op (d1 := .n [x, y]) (d2 := .i (if b then 1 else 0)) (er_lst (vs := [x, y]) (era_cons h1 (era_cons h2 era_nil)) (by simp)) (er_cb (era_cons hb era_nil) rc_intB) ?_
  cases b with
  | true => exact ro_ixN (by decide) rfl
  | false => exact ro_ixN (by decide) rfl
end
theorem cutS_to (l : List Nat) (n : Nat) : cutS (S l) none (some (n : Int)) = S (l.take n) := by
  unfold cutS
  rw [HT.sIx_none, HT.sIx_nat]
  show S _ = S _
  congr 1
  rw [List.drop_zero, S_list, S_len, Nat.sub_zero, List.take_eq_take_iff]
  omega
theorem cutS_from (l : List Nat) (n : Nat) : cutS (S l) (some (n : Int)) none = S (l.drop n) := by
  unfold cutS
  rw [HT.sIx_none, HT.sIx_nat, S_len, S_list]
  show S _ = S _
  congr 1
  by_cases h : n ≤ l.length
  · rw [Nat.min_eq_left h, List.take_of_length_le (by rw [List.length_drop]; exact Nat.le_refl _)]
  · rw [Nat.min_eq_right (by omega), List.drop_of_length_le (by omega : l.length ≤ n), List.drop_length]
    simp
theorem cutV_from (l : List V) (n : Nat) : cutV l (some (n : Int)) none = l.drop n := by
  unfold cutV
  rw [HT.sIx_none, HT.sIx_nat]
  by_cases h : n ≤ l.length
  · rw [Nat.min_eq_left h, List.take_of_length_le (by rw [List.length_drop]; exact Nat.le_refl _)]
  · rw [Nat.min_eq_right (by omega), List.drop_of_length_le (by omega : l.length ≤ n), List.drop_length]
    simp
theorem cutV_mid (l : List V) (n m : Nat) (h : n ≤ m) (hm : m ≤ l.length) : cutV l (some (n : Int)) (some (m : Int)) = (l.drop n).take (m - n) := by
  unfold cutV
  simp only [HT.sIx_nat, Nat.min_eq_left hm, Nat.min_eq_left (Nat.le_trans h hm)]
section
variable {K : PySem.W.Frag} {σ : L2.St} {H : Hp} {te ta tb : TE}
theorem er_slTo {l : List Nat} {n : Nat} (h : Er K te σ H (.s (S l))) (hz : l.length ≤ 100000) (h2 : Er K tb σ H (.i (n : Int))) : Er K (tSl rSlS te tNoPart (tPart tb)) σ H (.s (S (l.take n))) := by
  rw [← cutS_to]
  exact er_slS h (by rw [S_len]; exact hz) eo_non (eo_of h2)
theorem er_slFrom {l : List Nat} {n : Nat} (h : Er K te σ H (.s (S l))) (hz : l.length ≤ 100000) (h2 : Er K tb σ H (.i (n : Int))) : Er K (tSl rSlS te (tPart tb) tNoPart) σ H (.s (S (l.drop n))) := by
  rw [← cutS_from]
  exact er_slS h (by rw [S_len]; exact hz) (eo_of h2) eo_non
theorem vis_drop (ns : List Int) (n : Nat) : (vis ns).drop n = vis (ns.drop n) := by rw [vis, ← List.map_drop]
theorem vis_take (ns : List Int) (n : Nat) : (vis ns).take n = vis (ns.take n) := by rw [vis, ← List.map_take]
theorem er_slvFrom {ns : List Int} {n : Nat} (h : Er K te σ H (.l (vis ns))) (h2 : Er K tb σ H (.i (n : Int))) : Er K (tSl (rSlL K) te (tPart tb) tNoPart) σ H (.n (vis (ns.drop n))) := by
  rw [← vis_drop, ← cutV_from]
  exact er_slL h (eo_of h2) eo_non
theorem er_slvMid {ns : List Int} {n m : Nat} (h : Er K te σ H (.l (vis ns))) (h1 : Er K ta σ H (.i (n : Int))) (h2 : Er K tb σ H (.i (m : Int))) (hnm : n ≤ m) (hm : m ≤ ns.length) : Er K (tSl (rSlL K) te (tPart ta) (tPart tb)) σ H (.n (vis ((ns.drop n).take (m - n)))) := by
  rw [← vis_take, ← vis_drop, ← cutV_mid _ _ _ hnm (by rw [List.length_map]; exact hm)]
  exact er_slL h (eo_of h1) (eo_of h2)
end
end Mi

set_option maxHeartbeats 2000000
namespace Mi
open PySem PySem.Spec PyProof.Rows L2 Evl
section
variable {K : PySem.W.Frag} {σ : L2.St} {H H0 H' : Hp} {te ta tb : TE} {t u : TT} {a b : Bool} {d d' : Dd} {D : Ends} {tu tw tz : TS} {x y : V}
/-- if c: x = e, over texts of one sign -/
theorem a_ifSetC {i c e : Nat} (h : Et K t σ H b) (h1 : b = true → Er K te σ H (.s (S [c]))) (h2 : σ.set i (some (.str (S [e]))) = σ) (k : ∀ H1, Ex H H1 → tz D (σ.set i (some (.str (S [if b = true then c else e])))) H1) : tSeq (tIfS t (tAsg te (gName i)) tNext) tz D σ H :=
  a_ifAsg (x := .str (S [if b = true then c else e])) h (fun hb => by rw [if_pos hb]; exact h1 hb) (fun hb => by rw [if_neg (by rw [hb]; exact Bool.false_ne_true)]; exact h2) k
theorem er_pickC {c e : Nat} (h1 : Er K ta σ H (.s (S [c]))) (h2 : Er K tb σ H (.s (S [e]))) (hb : Er K te σ H (.b b)) : Er K (tOp (rIxL K) (tLst (tCons ta (tCons tb tNil))) (tCB rInt1 (tCons te tNil))) σ H (.s (S [if b = true then e else c])) := by
  have h := er_pick h1 h2 hb
  have e0 : (if b = true then V.str (S [e]) else V.str (S [c])) = V.str (S [if b = true then e else c]) := by cases b <;> rfl
  rw [e0] at h
  exact h
end
end Mi

set_option maxHeartbeats 4000000
namespace Mi
open PySem PySem.Spec PyProof.Rows L2 Evl PySem.W

/-! ### an object of ours that was not tracked is tracked from here on -/
theorem inv_track {X : Cx} {pins : List (Addr × Obj)} {σ : L2.St} {H : Hp} {s : Shared} {hp : Heap} {tn : Nat} {ch : List Addr} {T : Addr} {ob : HO} (I : Inv X pins σ H s) (kp : ∀ b o, b ∉ ch → s.heap.get? b = some o → hp.get? b = some o) (ok : ∀ b ∈ ch, FpOk X pins H b) (hT : T ∈ ch)
    (new : ObjOk X.prog X.w (upd H T ob) hp T ob) : Inv X pins σ (upd H T ob) { s with heap := hp, toks := tn } := by
  have hN : H T = none := (ok T hT).1
  have away : ∀ b u, H b = some u → b ∉ ch := fun b u e z => by
    rw [(ok b z).1] at e
    cases e
  have same : ∀ {b u}, H b = some u → upd H T ob b = some u := fun {b u} e => by
    have hb : b ≠ T := fun z => by rw [z, hN] at e; cases e
    rw [upd_ne hb]
    exact e
  refine I.step (ch := ch) ?a1 ?a2 ?a3 ?a4 ?a5 ?a6 ?a7 ?a8 ?a9 ?b1 I.bare
  case a1 => exact fun b hb => ⟨(ok b hb).2.2.2.1, (ok b hb).2.1, (ok b hb).2.2.2.2.1, (ok b hb).2.2.2.2.2⟩
  case a2 => exact fun b o _ _ hc e _ => kp b o hc e
  case a3 => exact fun b o _ _ hc e _ => ⟨o.slots, kp b o hc e⟩
  case a4 =>
    intro b o hc e n
    have hb : b ≠ T := by
      rintro rfl
      exact hc hT
    rw [upd_ne hb]
    exact n
  case a5 => exact fun b o hc e => ⟨o, kp b o hc e⟩
  case a6 => exact fun b xs e => same e
  case a7 => exact fun b o u e => same e
  case a8 =>
    intro b ps e
    refine ⟨#[], ?_⟩
    rw [same e]
    simp
  case a9 =>
    rintro m ⟨o, es, ep, ho, r⟩
    exact ⟨o, es, ep, kp _ o (fun z => (ok _ z).2.1 rfl) ho, r⟩
  case b1 =>
    intro b u e
    by_cases hb : b = T
    · subst hb
      rw [upd_same] at e
      cases e
      exact new
    · rw [upd_ne hb] at e
      refine (I.hok b u e).stay (fun c v hc z => kp c v ?_ z) (fun c z => same z) fun c xs z => same z
      rcases hc with z | z
      · exact z ▸ away b u e
      · exact away c _ z

/-! ### sorted by a def that answers its text -/
abbrev spId (K : PySem.W.Frag) : Sp := spR K (fun _ : List Nat => True) (fun a => [.s (S a)]) fun a => .s (S a)
def ordd (b : Bool) (ys : List (List Nat)) : List (List Nat) := ys.mergeSort (if b = true then fun x y => decide (y ≤ x) else fun x y => decide (x ≤ y))
def IsT (u : Value) (z : List Nat) : Prop := ∃ t, u = .str (S z) t
theorem each_of_vals : ∀ {ys : List (List Nat)} {us : List Value}, Vals (vss (ys.map S)) us → EachIs IsT us ys
  | [], _, h => by cases h; exact .nil
  | z :: r, _, h => by
    cases h with
    | cons a b => exact .cons a (each_of_vals b)
theorem vals_of_each : ∀ {us : List Value} {ys : List (List Nat)}, EachIs IsT us ys → Vals (vss (ys.map S)) us
  | _, _, .nil => .nil
  | _, _, .cons a b => .cons a (vals_of_each b)
theorem each_more {u : Value} {z : List Nat} (hu : IsT u z) : ∀ {us : List Value} {ys : List (List Nat)}, EachIs IsT us ys → EachIs IsT (us ++ [u]) (ys ++ [z])
  | _, _, .nil => .cons hu .nil
  | _, _, .cons a b => .cons a (each_more hu b)
theorem reads_of_each {hp : Heap} {us : List Value} {ys : List (List Nat)} (h : EachIs IsT us ys) : EachIs (fun v d => ∃ as, Reads hp v d as) us (ys.map fun z => PyData.str (S z)) := by
  induction h with
  | nil => exact .nil
  | cons a b ih =>
    obtain ⟨t, rfl⟩ := a
    exact .cons ⟨[], .str _ t⟩ ih
theorem dataLe_S (b : Bool) : dataLe b (fun z : List Nat => PyData.str (S z)) = if b = true then fun x y => decide (y ≤ x) else fun x y => decide (x ≤ y) := by
  cases b
  · rw [dataLe_str]; rfl
  · rw [dataGe_str]; rfl
/-- the heap without the object at k -/
def less (hp : Heap) (k : Addr) : Heap := hp.update k fun o => { o with data := .freed }
theorem less_at {hp : Heap} {k : Addr} {o : Obj} (h : hp.get? k = some o) : (less hp k).get? k = none := by
  cases hp with
  | mk objs l =>
    unfold less Heap.update Heap.get?
    simp only [Array.getElem?_modify, if_true]
    cases e : objs[k]? with
    | none => rfl
    | some q => rfl
theorem less_ne {hp : Heap} {k c : Addr} (h : c ≠ k) : (less hp k).get? c = hp.get? c := by
  unfold less
  rw [Heap.get?_update_ne _ _ _ _ h]
theorem each_at : ∀ {us : List Value} {ys : List (List Nat)} {i : Nat} {u : Value}, EachIs IsT us ys → us[i]? = some u → ∃ z, ys[i]? = some z ∧ IsT u z
  | [], _, _, _, _, h => by simp at h
  | _ :: _, _, 0, _, e, h => by
    cases e with
    | cons a b => exact ⟨_, rfl, Option.some.inj h ▸ a⟩
  | _ :: _, _, i + 1, _, e, h => by
    cases e with
    | cons a b => exact each_at (i := i) b h
theorem sorted_def {X : Cx} {k : Nat} {f : Addr} {fd : FuncData} {pn : Str} {b : Bool} {kw : List (Str × Value)} {pins : List (Addr × Obj)} {s : Shared} {σ : L2.St} {H : Hp} {a : Addr} {ys : List (List Nat)} {Q : VK}
    (F : FnOk X.prog X.w X.K X.mg X.base CX0 k f fd [pn] (spId X.K)) (hb : Binds X.K fd [pn] []) (hr : Room (k + 2) X.A) (I : Inv X pins σ H s) (hs : SqL X.K H a (vss (ys.map S)))
    (ha1 : argsOk "sorted" ⟨[.ref a], kw⟩) (ha2 : ∀ x, argsOk "list.sort" ⟨[.ref x], kw⟩) (ht : ∀ x, Builtin.«list.sort» ⟨[.ref x], kw⟩ = ksk_tree x (.ref f) b)
    (q : ∀ H2 p, Ex H H2 → H2 p = none → Q (.ref p) (upd H2 p (.lst (vss ((ordd b ys).map S))))) :
    wpAny (model X.prog X.w) X.A (call (.builtin "sorted") [.ref a] kw) (EP X pins σ Q) X.xe s := by
  obtain ⟨its, rv, hl, hz⟩ := I.list hs
  have hev := each_of_vals rv
  have hle : its.length = ys.length := hev.length
  have hZ : its.length ≤ sizeLine := by rw [← rv.length]; exact hz
  have un : X.A.in1.in1.units < cLine := by
    have h := hr.un
    show X.A.units + 1 + 1 < cLine
    omega
  have hr2 : Room k X.A.in1.in1 := (Room.in1 (show Room (k + 1 + 1) X.A from hr)).in1
  refine sorted_of_sort hl.isList hZ ha1 ha2 fun E' => ?_
  rw [ht]
  have hD := copyHeap_at s.heap its
  generalize eD : s.heap.objs.size + 1 = D at hD ⊢
  have hDs : D < (copyHeap s.heap its).objs.size := Heap.lt_size hD
  obtain ⟨e1, hD1⟩ : ∃ e1, ((copyHeap s.heap its).update D (Obj.mapSeq fun _ => (#[] : Array Value))).get? D = some (seqObj "list" #[] e1) := ⟨_, get?_update_seq hD fun _ => #[]⟩
  unfold ksk_tree
  refine wpAny_bind (listItems_at (s := { s with heap := copyHeap s.heap its }) hD rfl ?_)
  refine wpAny_bind (listUpdate_at (s := { s with heap := copyHeap s.heap its }) hD rfl ?_ (by rw [List.size_toArray]; exact hZ) (Nat.zero_le _))
  refine wpAny_bind (seqEpoch_at (s := { s with heap := (copyHeap s.heap its).update D (Obj.mapSeq fun _ => (#[] : Array Value)) }) hD1 rfl ?_)
  refine wpAny_bind (wpAny_newTuple ?_ (show its.length ≤ _ from hZ))
  refine wpAny_bind (wpAny_newList ?_ (Nat.zero_le _))
  refine wpAny_holding ?_
  have oldC : ∀ c o, s.heap.get? c = some o → c ≠ D ∧ (copyHeap s.heap its).get? c = some o := fun c o e => ⟨fun z => by
    have h1 : c < s.heap.objs.size := Heap.lt_size e
    rw [z, ← eD] at h1
    exact absurd h1 (Nat.not_lt.mpr (Nat.le_succ _)), copyHeap_old e⟩
  have dge : s.heap.objs.size ≤ D := Nat.le_of_succ_le (Nat.le_of_eq eD)
  have szK : (((copyHeap s.heap its).update D (Obj.mapSeq fun _ => (#[] : Array Value))).push (seqObj "tuple" its.toArray 0)).objs.size = (copyHeap s.heap its).objs.size + 1 := by rw [size_push', Heap.size_update]
  have hK : ((((copyHeap s.heap its).update D (Obj.mapSeq fun _ => (#[] : Array Value))).push (seqObj "tuple" its.toArray 0)).push (seqObj "list" #[] 0)).get? (((copyHeap s.heap its).update D (Obj.mapSeq fun _ => (#[] : Array Value))).push (seqObj "tuple" its.toArray 0)).objs.size = some (seqObj "list" #[] 0) := Heap.get?_push_size _ rfl
  have hD2 : ((((copyHeap s.heap its).update D (Obj.mapSeq fun _ => (#[] : Array Value))).push (seqObj "tuple" its.toArray 0)).push (seqObj "list" #[] 0)).get? D = some (seqObj "list" #[] e1) := Heap.get?_push_of_some _ (Heap.get?_push_of_some _ hD1)
  have old2 : ∀ c o, s.heap.get? c = some o → ((((copyHeap s.heap its).update D (Obj.mapSeq fun _ => (#[] : Array Value))).push (seqObj "tuple" its.toArray 0)).push (seqObj "list" #[] 0)).get? c = some o := fun c o e => by
    obtain ⟨c1, c2⟩ := oldC c o e
    exact Heap.get?_push_of_some _ (Heap.get?_push_of_some _ ((Heap.get?_update_ne _ _ _ _ c1).trans c2))
  have hKge : s.heap.objs.size ≤ (((copyHeap s.heap its).update D (Obj.mapSeq fun _ => (#[] : Array Value))).push (seqObj "tuple" its.toArray 0)).objs.size := by rw [szK]; omega
  have hDK : D ≠ (((copyHeap s.heap its).update D (Obj.mapSeq fun _ => (#[] : Array Value))).push (seqObj "tuple" its.toArray 0)).objs.size := by rw [szK]; omega
  show wpAny _ _ (ksk_rest D (.ref f) b its.toArray e1 (.ref (((copyHeap s.heap its).update D (Obj.mapSeq fun _ => (#[] : Array Value))).push (seqObj "tuple" its.toArray 0)).objs.size)) _ _ { s with heap := ((((copyHeap s.heap its).update D (Obj.mapSeq fun _ => (#[] : Array Value))).push (seqObj "tuple" its.toArray 0)).push (seqObj "list" #[] 0)) }
  revert hK hD2 old2 hKge hDK
  generalize (((copyHeap s.heap its).update D (Obj.mapSeq fun _ => (#[] : Array Value))).push (seqObj "tuple" its.toArray 0)).objs.size = kS
  generalize ((((copyHeap s.heap its).update D (Obj.mapSeq fun _ => (#[] : Array Value))).push (seqObj "tuple" its.toArray 0)).push (seqObj "list" #[] 0)) = hh
  intro hK hD2 old2 hKge hDK
  have I2 : Inv X pins σ H { s with heap := hh } := I.kept (t' := s.toks) old2
  have hDge : s.heap.objs.size ≤ D := dge
  have fD : FpOk X pins H D := I.fpOk hDge (I.hok.fresh hDge)
  have fK : FpOk X pins H kS := I.fpOk hKge (I.hok.fresh hKge)
  have repin : ∀ {H' : Hp} {t : Shared} {kA : Array Value} {e : Nat}, Inv X pins σ H' t → t.heap.get? D = some (seqObj "list" #[] e1) → H' D = none → t.heap.get? kS = some (seqObj "list" kA e) → H' kS = none → Inv X (pins ++ [(D, seqObj "list" #[] e1), (kS, seqObj "list" kA e)]) σ H' t := by
    intro H' t kA e J d1 d2 k1 k2
    refine J.pins_of fun p hp => ?_
    rcases List.mem_append.mp hp with h | h
    · exact J.pin p (List.mem_append_right _ h)
    · rcases List.mem_cons.mp h with rfl | h
      · exact ⟨d1, d2, fD.2.1, fD.2.2.1, fun v => by simp [seqObj]⟩
      · rw [List.mem_singleton.mp h]
        exact ⟨k1, k2, fK.2.1, fK.2.2.1, fun v => by simp [seqObj]⟩
  unfold ksk_rest
  refine wpAny_bind (wpAny_rule ?_)
  first
    | rw [List.forIn_toArray]
    | (rw [← Array.forIn_toList]; simp only [List.toList_toArray])
    | rw [← Array.forIn_toList]
  refine wpAny_bind (ksk_fold (fun i t => ∃ H' kA e, Ex H H' ∧ Inv X (pins ++ [(D, seqObj "list" #[] e1), (kS, seqObj "list" kA e)]) σ H' t ∧ EachIs IsT kA.toList (ys.take i)) its 0 { s with heap := hh } ⟨H, #[], 0, Ex.refl H, repin I2 hD2 fD.1 hK fK.1, by rw [List.take_zero]; exact .nil⟩ ?turn ?over)
  case turn =>
    rintro j x t hx ⟨H', kA, e, hex, J, hk⟩
    simp only [Nat.zero_add] at hk ⊢
    obtain ⟨z, hz1, tz, rfl⟩ := each_at hev hx
    have hj : j < its.length := (List.getElem?_eq_some_iff.mp hx).1
    have hkz : kA.size ≤ its.length := by
      have h1 := hk.length
      rw [Array.length_toList, List.length_take] at h1
      omega
    have call1 : wpAny (model X.prog X.w) X.A.in1.in1 (call (.ref f) [.str (S z) tz]) (EP X (pins ++ [(D, seqObj "list" #[] e1), (kS, seqObj "list" kA e)]) σ fun v H2 => v = .str (S z) ∧ Ex H' H2) (fun _ _ => False) t := by
      have rx : Vals [V.str (S z)] [Value.str (S z) tz] := .cons ⟨tz, rfl⟩ .nil
      have hsp : spId X.K [V.str (S z)] H' (fun v H2 => v = .str (S z) ∧ Ex H' H2) E0 := ⟨z, trivial, .cons rfl .nil, fun v H2 ee hv => ⟨hv, ee⟩⟩
      have bd := hb t [.str (S z) tz] J.kIn rfl
      refine wpAny_call (codeAny_mono (F.run X.A.in1.in1 X.stack t H' ⟨[.str (S z) tz], []⟩ _ _ _ E0 hr2 J.env0.in1.in1 bd rx hsp) fun r t' hq => ?_)
      cases r with
      | error e => exact hq.elim
      | ok fl =>
        cases fl with
        | ret u => exact J.after hq
        | next => exact hq.elim
        | brk => exact hq.elim
        | cont => exact hq.elim
    refine wpAny_bind (wpAny_attempt (wpAny_mono call1 (fun u t2 hu => ?_) fun _ _ hF => False.elim hF))
    obtain ⟨v, H2, J2, ru, rfl, hex2⟩ := hu
    obtain ⟨tu, rfl⟩ := ru
    have pD := J2.pin (D, seqObj "list" #[] e1) (List.mem_append_right _ (List.mem_append_right _ (.head _)))
    have pK := J2.pin (kS, seqObj "list" kA e) (List.mem_append_right _ (List.mem_append_right _ (.tail _ (.head _))))
    try dsimp only
    obtain ⟨c2, hc2⟩ : ∃ c2, (t2.heap.update kS (Obj.mapSeq (·.push (.str (S z) tu)))).get? kS = some (seqObj "list" (kA.push (.str (S z) tu)) c2) := ⟨_, get?_update_seq pK.1 (·.push _)⟩
    have keepK : ∀ b o, b ∉ [kS] → t2.heap.get? b = some o → (t2.heap.update kS (Obj.mapSeq (·.push (.str (S z) tu)))).get? b = some o := fun b o hb ho => (Heap.get?_update_ne _ _ _ _ (fun z => hb (by rw [z]; exact .head _))).trans ho
    have hsz2 : (kA.push (.str (S z) tu)).size ≤ sizeLine + 1 := by
      rw [Array.size_push]
      omega
    refine wpAny_bind (listUpdate_at pK.1 rfl ?_ (by omega) hsz2)
    refine wpAny_pure ⟨rfl, H2, kA.push (.str (S z) tu), c2, hex.trans hex2, ?_, ?_⟩
    · refine repin (Inv.turnedL (t' := t2.toks) J2.unpinned keepK (fun b hb => ?_)) ?_ pD.2.1 hc2 pK.2.1
      · rw [List.mem_singleton.mp hb]
        exact ⟨pK.2.1, fK.2⟩
      · exact keepK D _ (fun h => hDK (List.mem_singleton.mp h)) pD.1
    · have ek : ys.take (j + 1) = ys.take j ++ [z] := by rw [List.take_add_one, hz1]; rfl
      rw [ek, Array.toList_push]
      exact each_more ⟨tu, rfl⟩ hk
  case over =>
    rintro t ⟨H', kA, e, hex, J, hk⟩
    have e3 : ys.take (0 + its.length) = ys := List.take_of_length_le (by omega)
    rw [e3] at hk
    have hsz : kA.size = its.length := by
      have h1 := hk.length
      rw [Array.length_toList] at h1
      omega
    have pD := J.pin (D, seqObj "list" #[] e1) (List.mem_append_right _ (List.mem_append_right _ (.head _)))
    have pK := J.pin (kS, seqObj "list" kA e) (List.mem_append_right _ (List.mem_append_right _ (.tail _ (.head _))))
    try dsimp only
    refine wpAny_bind (listItems_at pK.1 rfl ?_)
    have alk : AllAlike (ys.map fun z => PyData.str (S z)) := AllAlike.of fun _ _ => rfl
    have srt : Sortable (ys.map fun z => PyData.str (S z)) := Sortable.others fun z => ⟨by simp, fun xs => by simp⟩
    have dep : ∀ d, d ∈ ys.map (fun z => PyData.str (S z)) → X.A.in1.in1.units + d.depth < cLine := fun d hd => by
      obtain ⟨z, _, rfl⟩ := List.mem_map.mp hd
      show X.A.in1.in1.units + 0 < cLine
      omega
    have rd := reads_of_each (hp := t.heap) hk
    have kb : KeepsBut D (less t.heap kS) t.heap := fun c o hc ho => by
      have hck : c ≠ kS := fun z => by rw [z, less_at pK.1] at ho; cases ho
      rw [less_ne hck] at ho
      exact ho
    refine keyH_end (κ := dataKind t.heap (ys.map fun z => PyData.str (S z))) (h₁ := less t.heap kS) kb (less_at pK.1) pK.1 pD.1 (Ne.symm hDK) (SortsAt.data rd alk srt dep) hsz hZ fun h4 tk c k4 n4 => ⟨rfl, ?_⟩
    have out1 : EachIs IsT (sortVals (dataKind t.heap (ys.map fun z => PyData.str (S z))) b kA.toList its) (ys.mergeSort (dataLe b fun z => PyData.str (S z))) := keyedOut_each (rev := b) (fun z => PyData.str (S z)) ⟨t.heap, kA.toList, alk, rfl, rd⟩ hev
    rw [dataLe_S] at out1
    have keep4 : ∀ c o, c ∉ [kS, D] → t.heap.get? c = some o → h4.get? c = some o := fun c o hc ho => by
      refine k4 c o (fun z => hc (by rw [z]; simp)) ?_
      rw [less_ne (fun z => hc (by rw [z]; simp))]
      exact ho
    have hlen4 : (vss ((ordd b ys).map S)).length ≤ sizeLine := by
      unfold vss ordd
      rw [List.length_map, List.length_map, List.length_mergeSort]
      omega
    have J4 : Inv X pins σ (upd H' D (.lst (vss ((ordd b ys).map S)))) { t with heap := h4, toks := tk } := by
      refine inv_track J.unpinned keep4 (fun c hc => ?_) (by simp) ⟨hlen4, _, c, vals_of_each out1, n4⟩
      rcases List.mem_cons.mp hc with rfl | hc
      · exact ⟨pK.2.1, fK.2⟩
      · rw [List.mem_singleton.mp hc]
        exact ⟨pD.2.1, fD.2⟩
    exact ⟨.ref D, _, J4, rfl, q H' D hex pD.2.1⟩

/-- sorted(e, key=f[, reverse=True]), f a def of the text -/
def rSortD (K : PySem.W.Frag) (b : Bool) (vs : List V) (H : Hp) (Q : VK) : Prop := ∃ (a : Addr) (ys : List (List Nat)), vs = [.ref a] ∧ SqL K H a (vss (ys.map S)) ∧ ∀ H2 p, Ex H H2 → H2 p = none → Q (.ref p) (upd H2 p (.lst (vss ((ordd b ys).map S))))
def tSortD (K : PySem.W.Frag) (b : Bool) (t : TE) : TE := fun σ H Q => tCons t tNil σ H fun vs H1 => rSortD K b vs H1 Q
section
variable {X : Cx} {k : Nat} {x pn : Str} {p px pos k1 k2 : Pos} {e : Expr} {t : TE}
theorem pe_sortD (F : Has X.prog X.w X.K X.mg X.base k x [pn] (spId X.K)) (hr : Room (k + 2) X.A) (hg : Gl X "sorted") (hm : X.mg "sorted" = none) (hgx : Gl X x) (he : PA X [e] (tCons t tNil)) (hdb : (x == ("__debug__" : Str)) = false := by decide)
    (hs : backTo pos (starEach [e] X.env) = (false, eval e X.env) :: backTo pos (starEach [] X.env) := by rfl) (hpl : (backTo pos (starEach [e] X.env)).any (·.1) = false := by rfl)
    (hall : (backToKw pos (keywordEach [⟨some "key", .Name x px, k1⟩] X.env)).all (·.1.isSome) = true := by rfl) (hnone : (backToKw pos (keywordEach [⟨some "key", .Name x px, k1⟩] X.env)).any (·.1.isNone) = false := by rfl) (hks : (backToKw pos (keywordEach [⟨some "key", .Name x px, k1⟩] X.env)).filterMap (·.1) = [Str.ofString "key"] := by rfl) :
    PE X (.Call (.Name "sorted" p) [e] [⟨some "key", .Name x px, k1⟩] pos) (tSortD X.K false t) := by
  obtain ⟨f, fd, hmx, hk, F, hb, _⟩ := F.ex
  have hc : CallRK X (.builtin "sorted") [Str.ofString "key"] (fun vs zs H Q => zs = [.ref f] ∧ rSortD X.K false vs H Q) := by
    rintro pins s σ H vs zs us ws Q I r rz ⟨rfl, a, ys, rfl, hs, q⟩
    obtain rfl := Vals.ref1 r
    obtain ⟨w1, rfl, e1⟩ := vals1 rz
    obtain rfl : w1 = Value.ref f := e1
    exact sorted_def (b := false) F hb hr I hs (ksk_s1 _ _) (fun _ => ksk_l1 _ _) (fun x => ksk_t1 f x) q
  have P1 := pe_callBK (p := p) (pos := pos) hc hg hm (by rfl) he (pk_cons (pe_glob (pos := px) (v := .ref f) hgx hmx rfl hdb) pk_nil) (by decide) (by decide) hs hpl hall hnone hks
  refine ⟨fun pins s σ H Q I h => P1.run pins s σ H Q I ?_⟩
  show tCons t tNil σ H fun vs H1 => ([V.ref f] = [V.ref f]) ∧ rSortD X.K false vs H1 Q
  have e0 : (fun vs H1 => ([V.ref f] = [V.ref f]) ∧ rSortD X.K false vs H1 Q) = fun vs H1 => rSortD X.K false vs H1 Q := by
    funext vs H1
    simp
  rw [e0]
  exact h
theorem pe_sortDR (F : Has X.prog X.w X.K X.mg X.base k x [pn] (spId X.K)) (hr : Room (k + 2) X.A) (hg : Gl X "sorted") (hm : X.mg "sorted" = none) (hgx : Gl X x) (he : PA X [e] (tCons t tNil)) {pb : Pos} {kb : Nat} (hdb : (x == ("__debug__" : Str)) = false := by decide)
    (hs : backTo pos (starEach [e] X.env) = (false, eval e X.env) :: backTo pos (starEach [] X.env) := by rfl) (hpl : (backTo pos (starEach [e] X.env)).any (·.1) = false := by rfl)
    (hall : (backToKw pos (keywordEach [⟨some "key", .Name x px, k1⟩, ⟨some "reverse", .Constant (.bool true) kb pb, k2⟩] X.env)).all (·.1.isSome) = true := by rfl) (hnone : (backToKw pos (keywordEach [⟨some "key", .Name x px, k1⟩, ⟨some "reverse", .Constant (.bool true) kb pb, k2⟩] X.env)).any (·.1.isNone) = false := by rfl) (hks : (backToKw pos (keywordEach [⟨some "key", .Name x px, k1⟩, ⟨some "reverse", .Constant (.bool true) kb pb, k2⟩] X.env)).filterMap (·.1) = [Str.ofString "key", Str.ofString "reverse"] := by rfl) :
    PE X (.Call (.Name "sorted" p) [e] [⟨some "key", .Name x px, k1⟩, ⟨some "reverse", .Constant (.bool true) kb pb, k2⟩] pos) (tSortD X.K true t) := by
  obtain ⟨f, fd, hmx, hk, F, hb, _⟩ := F.ex
  have hc : CallRK X (.builtin "sorted") [Str.ofString "key", Str.ofString "reverse"] (fun vs zs H Q => zs = [.ref f, .bl true] ∧ rSortD X.K true vs H Q) := by
    rintro pins s σ H vs zs us ws Q I r rz ⟨rfl, a, ys, rfl, hs, q⟩
    obtain rfl := Vals.ref1 r
    obtain ⟨w1, w2, rfl, e1, e2⟩ := vals2 rz
    obtain rfl : w1 = Value.ref f := e1
    obtain rfl : w2 = Value.bool true := e2
    exact sorted_def (b := true) F hb hr I hs (ksk_s2 _ _ _) (fun _ => ksk_l2 _ _ _) (fun x => ksk_t2 f x true) q
  have P1 := pe_callBK (p := p) (pos := pos) hc hg hm (by rfl) he (pk_cons (pe_glob (pos := px) (v := .ref f) hgx hmx rfl hdb) (pk_cons pe_bl pk_nil)) (by decide) (by decide) hs hpl hall hnone hks
  refine ⟨fun pins s σ H Q I h => P1.run pins s σ H Q I ?_⟩
  show tCons t tNil σ H fun vs H1 => ([V.ref f, V.bl true] = [V.ref f, V.bl true]) ∧ rSortD X.K true vs H1 Q
  have e0 : (fun vs H1 => ([V.ref f, V.bl true] = [V.ref f, V.bl true]) ∧ rSortD X.K true vs H1 Q) = fun vs H1 => rSortD X.K true vs H1 Q := by
    funext vs H1
    simp
  rw [e0]
  exact h
end
section
variable {K : PySem.W.Frag} {σ : L2.St} {H : Hp} {te : TE}
theorem er_sortD {b : Bool} {ys : List (List Nat)} (h : Er K te σ H (.l (vss (ys.map S)))) : Er K (tSortD K b te) σ H (.n (vss ((ordd b ys).map S))) := fun H1 e Q q =>
  h H1 e _ fun v H2 e2 ⟨a, ea, ha⟩ => ⟨a, ys, by rw [ea], ha, fun H3 p e3 hp => q _ _ ((e2.trans e3).trans (Ex.new hp)) ⟨p, rfl, upd_same⟩⟩
end
end Mi

set_option maxHeartbeats 2000000
namespace Mi
open PySem PySem.Spec PyProof.Rows L2 Evl
abbrev vsl (L : List (List Nat)) : List V := vss (L.map S)
theorem vsl_len (L : List (List Nat)) : (vsl L).length = L.length := by simp [vss]
theorem vsl_app (L : List (List Nat)) (l : List Nat) : vsl (L ++ [l]) = vsl L ++ [.str (S l)] := by
  rw [vsl, List.map_append, vss, List.map_append]
  rfl
theorem vsl_at {L : List (List Nat)} {i : Nat} {x : V} (h : (vsl L)[i]? = some x) : ∃ l, L[i]? = some l ∧ V.str (S l) = x := by
  rw [List.getElem?_map, List.getElem?_map] at h
  cases q : L[i]? with
  | none => rw [q] at h; cases h
  | some l => rw [q] at h; exact ⟨l, rfl, Option.some.inj h⟩
section
variable {K : PySem.W.Frag} {σ : L2.St} {H H0 H' : Hp} {te ta tb : TE} {t u : TT} {a b : Bool} {d d' : Dd} {D : Ends} {tu tw tz : TS} {x y : V}
theorem a_ifSetS {i : Nat} {c e : List Nat} (h : Et K t σ H b) (h1 : b = true → Er K te σ H (.s (S c))) (h2 : σ.set i (some (.str (S e))) = σ) (k : ∀ H1, Ex H H1 → tz D (σ.set i (some (.str (S (if b = true then c else e))))) H1) : tSeq (tIfS t (tAsg te (gName i)) tNext) tz D σ H :=
  a_ifAsg (x := .str (S (if b = true then c else e))) h (fun hb => by rw [if_pos hb]; exact h1 hb) (fun hb => by rw [if_neg (by rw [hb]; exact Bool.false_ne_true)]; exact h2) k
theorem ro_ixSS {L : List (List Nat)} {i : Int} (h0 : 0 ≤ i) (h1 : i < L.length) : Ro K (rIxL K) (.l (vsl L)) (.v (.int i)) (.v (.str (S (L.getD i.toNat [])))) := by
  refine ro_ixL h0 ?_
  have h2 : i.toNat < L.length := by omega
  rw [List.getElem?_map, List.getElem?_map, List.getD_eq_getElem?_getD, List.getElem?_eq_getElem h2]
  rfl
theorem ro_ixSN {L : List (List Nat)} {i : Int} (h0 : 0 ≤ i) (h1 : i < L.length) : Ro K (rIxL K) (.n (vsl L)) (.v (.int i)) (.v (.str (S (L.getD i.toNat [])))) := fun v w H1 a b => ro_ixSS h0 h1 v w H1 a.n2l b
theorem rc_lenLL {L : List (List Nat)} : Rc K (rLenS K) [.l (vsl L)] (.v (.int (L.length : Int))) := by
  have h := rc_lenT (K := K) (ns := L.map S)
  rw [List.length_map] at h
  exact h
theorem rc_lenLN {L : List (List Nat)} : Rc K (rLenS K) [.n (vsl L)] (.v (.int (L.length : Int))) := by
  have h := rc_lenTN (K := K) (ns := L.map S)
  rw [List.length_map] at h
  exact h
/-- [n] * k -/
theorem er_same {n : Int} {k : Nat} (h : Er K te σ H (.i n)) (hk : k ≤ 1000) : Er K (tOp rRep (tLst (tCons te tNil)) (tC (.int (k : Int)))) σ H (.n (vis (List.replicate k n))) := by
  have e : vis (List.replicate k n) = (List.replicate k [V.int n]).flatten := by
    rw [vis, List.map_replicate, List.flatten_replicate_singleton]
  rw [e]
  exact er_op (er_lst (vs := [.int n]) (era_cons h era_nil) (by simp)) er_c (ro_rep (by simp; omega) (by omega))
end
theorem getD_memL {α : Type} {l : List α} {k : Nat} {z : α} (h : k < l.length) : l.getD k z ∈ l := by
  rw [List.getD_eq_getElem?_getD, List.getElem?_eq_getElem h]
  exact List.getElem_mem h
theorem getD_sz {l : List Int} {k : Nat} (h : k < l.length) : l.getD k 0 = l[k] := by
  rw [List.getD_eq_getElem?_getD, List.getElem?_eq_getElem h]
  rfl
end Mi

set_option maxHeartbeats 2000000
namespace Mi
open PySem PySem.Spec PyProof.Rows L2 Evl
section
variable {K : PySem.W.Frag} {σ : L2.St} {H H0 H' : Hp} {te ta tb : TE} {t u : TT} {a b : Bool} {d d' : Dd} {D : Ends} {tu tw tz : TS} {x y : V}
/-- if c: x = e else: x = f, both of one kind -/
theorem a_ifElse {i : Nat} (h : Et K t σ H b) (h1 : b = true → Er K ta σ H d) (h2 : b = false → Er K tb σ H d) (k : ∀ v H1, Ex H H1 → Is K H1 d v → tz D (σ.set i (some v)) H1) : tSeq (tIfS t (tAsg ta (gName i)) (tAsg tb (gName i))) tz D σ H :=
  a_if h (fun hb H1 e1 => a_asg1 (D := { D with nx := tz D }) ((h1 hb).mono e1) fun v H2 e2 z => k v H2 (e1.trans e2) z) (fun hb H1 e1 => a_asg1 (D := { D with nx := tz D }) ((h2 hb).mono e1) fun v H2 e2 z => k v H2 (e1.trans e2) z)
/-- a loop over a tuple that stands at l -/
theorem b_forU {l : Addr} {xs : List V} {tl : TE} {j : Nat} (h : Er K tl σ H (.v (.ref l))) (hx : SqT K H l xs) (Pv : Nat → L2.St → Hp → Prop) (h0 : ∀ H1, Ex H H1 → Pv 0 σ H1) (hl : ∀ i σ' H', i ≤ xs.length → Pv i σ' H' → SqT K H' l xs)
    (hs : ∀ i x σ' H', xs[i]? = some x → Pv i σ' H' → tu { D with nx := Pv (i + 1), ct := Pv (i + 1), bk := tz D } (σ'.set j (some x)) H') (hd : ∀ σ' H', Pv xs.length σ' H' → tz D σ' H') : tSeq (tFor (iTup K tl) (gName j) tu) tz D σ H :=
  h H (Ex.refl H) _ fun v H1 e z => by
    have ez : v = .ref l := z
    subst ez
    exact ⟨l, rfl, ⟨xs, ex_t e hx⟩, for_tup (D := { D with nx := tz D }) Pv (h0 H1 e) hl hs hd⟩
/-- a place of a list that was made here -/
theorem er_pos {xs : List V} {n : Nat} (h : Er K te σ H (.n xs)) (hx : xs[n]? = some x) : Er K (tOp (rIxL K) te (tC (.int (n : Int)))) σ H (.v x) :=
  er_op h er_c (ro_ixN (by omega) (by rw [Int.toNat_natCast]; exact hx))
end
theorem zipIdx_range (l : List Nat) : l.zipIdx = (List.range l.length).map fun k => (l.getD k 0, k) := by
  refine List.ext_getElem (by simp) fun i h1 h2 => ?_
  simp at h1 h2 ⊢
  rw [List.getElem?_eq_getElem (by omega)]
  rfl
end Mi

set_option maxHeartbeats 2000000
namespace Mi
open PySem PySem.Spec PyProof.Rows L2 Evl
theorem isAll_at {K : PySem.W.Frag} {H : Hp} : ∀ {ds : List Dd} {vs : List V} {i : Nat} {v : V}, IsAll K H ds vs → vs[i]? = some v → ∃ d, ds[i]? = some d ∧ Is K H d v
  | [], _, i, v, h, e => by cases h; simp at e
  | d :: ds, _, 0, v, h, e => by
    cases h with
    | cons a b => exact ⟨d, rfl, Option.some.inj e ▸ a⟩
  | d :: ds, _, i + 1, v, h, e => by
    cases h with
    | cons a b => exact isAll_at (i := i) b e
section
variable {K : PySem.W.Frag} {σ : L2.St} {H H0 H' : Hp} {te ta tb tc : TE} {t u : TT} {tr : TA} {a b : Bool} {d e d1 d2 : Dd} {D : Ends} {tu tw tz : TS} {x y : V}
/-- a loop over a list that is written out, its items of any kind -/
theorem a_forD {dss : List Dd} {j : Nat} (h : Era K tr σ H dss) (hz : dss.length ≤ 100000) (Pv : Nat → L2.St → Hp → Prop) (h0 : ∀ H1, Ex H H1 → Pv 0 σ H1)
    (hs : ∀ H1, Ex H H1 → ∀ i d v σ' H', dss[i]? = some d → (∀ H2, Ex H1 H2 → Is K H2 d v) → Pv i σ' H' → Ex H1 H' → tu { D with nx := fun σ2 H2 => Pv (i + 1) σ2 H2 ∧ Ex H1 H2, ct := fun σ2 H2 => Pv (i + 1) σ2 H2 ∧ Ex H1 H2, bk := D.nx } (σ'.set j (some v)) H')
    (hd : ∀ σ' H', Pv dss.length σ' H' → D.nx σ' H') : tFor (iList K (tLst tr)) (gName j) tu D σ H :=
  h H (Ex.refl H) _ fun vs H1 e1 z => by
    have len := z.len
    refine ⟨sz_of (by omega), fun p hp => ⟨p, rfl, ⟨vs, sq_of upd_same⟩, ?_⟩⟩
    have e2 : Ex H1 (upd H1 p (.lst vs)) := Ex.new hp
    have hq : (upd H1 p (.lst vs)) p = some (.lst vs) := upd_same
    have z2 := z.mono e2
    refine for_list (xs := vs) (fun i σ' H' => Pv i σ' H' ∧ Ex (upd H1 p (.lst vs)) H') ⟨h0 _ (e1.trans e2), Ex.refl _⟩ (fun i σ' H' _ q => sq_of (q.2 p _ hq)) (fun i v σ' H' hv q => ?_) fun σ' H' q => hd σ' H' (by rw [len]; exact q.1)
    obtain ⟨d, hd', hi⟩ := isAll_at z2 hv
    exact hs _ (e1.trans e2) i d v σ' H' hd' (fun H2 e3 => hi.mono e3) q.1 q.2
/-- [a, b][i], a and b of any kind -/
theorem er_pickD {i : Int} (h1 : Er K ta σ H d1) (h2 : Er K tb σ H d2) (hc : Er K tc σ H (.i i)) (hi : i = 0 ∨ i = 1) : Er K (tOp (rIxL K) (tLst (tCons ta (tCons tb tNil))) tc) σ H (if i = 0 then d1 else d2) := fun H1 e Q q =>
  h1 H1 e _ fun v1 H2 e2 z1 => h2 H2 (e.trans e2) _ fun v2 H3 e3 z2 => ⟨sz_of (by simp), fun p hp => by
    have e4 : Ex H3 (upd H3 p (.lst [v1, v2])) := Ex.new hp
    have hq : (upd H3 p (.lst [v1, v2])) p = some (.lst [v1, v2]) := upd_same
    refine hc _ (((e.trans e2).trans e3).trans e4) _ fun v H4 e5 z => ?_
    have ez : v = .int i := z
    subst ez
    rcases hi with rfl | rfl
    · exact ⟨p, [v1, v2], 0, v1, rfl, rfl, sq_of (e5 p _ hq), rfl, q _ _ (((e2.trans e3).trans e4).trans e5) (((z1.mono e3).mono e4).mono e5)⟩
    · exact ⟨p, [v1, v2], 1, v2, rfl, rfl, sq_of (e5 p _ hq), rfl, q _ _ (((e2.trans e3).trans e4).trans e5) ((z2.mono e4).mono e5)⟩⟩
/-- if c: x = e, values of any kind -/
theorem a_ifSetD {i : Nat} {v : V} (h : Et K t σ H b) (h1 : b = true → Er K te σ H d) (h2 : σ.set i (some v) = σ) (hv : Is K H e v) (k : ∀ w H1, Ex H H1 → Is K H1 (if b = true then d else e) w → tz D (σ.set i (some w)) H1) : tSeq (tIfS t (tAsg te (gName i)) tNext) tz D σ H :=
  a_when h (fun hb H1 e1 => a_asg1 (D := { D with nx := tz D }) ((h1 hb).mono e1) fun w H2 e2 z => k w H2 (e1.trans e2) (by rw [if_pos hb]; exact z)) (fun hb H1 e1 => by
    have g := k v H1 e1 (by rw [if_neg (by rw [hb]; exact Bool.false_ne_true)]; exact hv.mono e1)
    rw [h2] at g
    exact g)
end
theorem fnR {P : Program} {w : World} {K : PySem.W.Frag} {mg : Str → Option Value} {base : Heap} {x : Str} {st : Stmt} {f0 : Addr} {fd : FuncData} {N ps : List Str} {k : Nat} {T : Type} {pre : T → Prop} {args : T → List Dd} {ret : T → Dd}
    (F : Fun K x x st f0 fd) (Sc : FnScope N ps (defScope st)) (hl : ∀ a, (args a).length = ps.length)
    (hbody : ∀ (f : Addr) (cdv : Value) (A : Around) (outer : List Env) (s : Shared) (H : Hp) (a : T) (vs : List V) (Q : VK) (E : XK), Room k (A.deeper (envOfC x (defScope st) s.heap.objs.size f cdv)) → pre a → IsAll K H (args a) vs → (∀ v H', Ex H H' → Is K H' (ret a) v → Q v H') →
      ∃ t, PSs (cxOf CX0 P w K mg base N x (defScope st) f cdv A outer s H E).nox (defBody st) t ∧ t { nx := fun _ H' => Q .non H', rt := Q } (start N vs) H) :
    FnOk P w K mg base CX0 (k + 1) f0 fd ps (spR K pre args ret) :=
  F.ok Sc (fun vs H Q E hsp => by
    obtain ⟨a, _, hv, _⟩ := hsp
    rw [← hv.len, hl]) (fun cdv A outer s H vs Q E hr hsp => by
    obtain ⟨a, hp, hv, hk⟩ := hsp
    exact hbody f0 cdv A outer s H a vs Q E hr hp hv hk)
end Mi

set_option maxHeartbeats 2000000
namespace Mi
open PySem PySem.Spec PyProof.Rows L2 Evl
/-! ### lists and tuples whose items are told one by one -/
section
variable {K : PySem.W.Frag} {H H' : Hp}
theorem isE_all : ∀ {ds : List Dd} {vs : List V}, IsE K H ds vs ↔ IsAll K H ds vs
  | [], vs => ⟨fun h => by rw [show vs = [] from h]; exact .nil, fun h => by cases h; rfl⟩
  | d :: ds, vs => ⟨fun h => by
      obtain ⟨x, r, rfl, a, b⟩ := h
      exact .cons a (isE_all.mp b), fun h => by
      cases h with
      | cons a b => exact ⟨_, _, rfl, a, isE_all.mpr b⟩⟩
theorem isE_len {ds : List Dd} {vs : List V} (h : IsE K H ds vs) : ds.length = vs.length := (isE_all.mp h).len
theorem isE_app : ∀ {as bs : List Dd} {us vs : List V}, IsE K H as us → IsE K H bs vs → IsE K H (as ++ bs) (us ++ vs)
  | [], _, us, _, h, g => by rw [show us = [] from h]; exact g
  | d :: ds, _, us, _, h, g => by
    obtain ⟨x, r, rfl, a, b⟩ := h
    exact ⟨x, _, rfl, a, isE_app b g⟩
theorem isE_take : ∀ {ds : List Dd} {vs : List V} (n : Nat), IsE K H ds vs → IsE K H (ds.take n) (vs.take n)
  | _, vs, 0, _ => by
    rw [List.take_zero, List.take_zero]
    rfl
  | [], vs, n + 1, h => by rw [show vs = [] from h]; rfl
  | d :: ds, vs, n + 1, h => by
    obtain ⟨x, r, rfl, a, b⟩ := h
    exact ⟨x, _, rfl, a, isE_take n b⟩
theorem isE_drop : ∀ {ds : List Dd} {vs : List V} (n : Nat), IsE K H ds vs → IsE K H (ds.drop n) (vs.drop n)
  | _, vs, 0, h => h
  | [], vs, n + 1, h => by rw [show vs = [] from h]; rfl
  | d :: ds, vs, n + 1, h => by
    obtain ⟨x, r, rfl, a, b⟩ := h
    exact isE_drop n b
theorem isE_at {ds : List Dd} {vs : List V} {i : Nat} {d : Dd} (h : IsE K H ds vs) (hd : ds[i]? = some d) : ∃ v, vs[i]? = some v ∧ Is K H d v := by
  have hl := isE_len h
  have hi : i < vs.length := by
    have := (List.getElem?_eq_some_iff.mp hd).1
    omega
  obtain ⟨d', e1, e2⟩ := isAll_at (isE_all.mp h) (List.getElem?_eq_getElem hi)
  rw [hd] at e1
  exact ⟨_, List.getElem?_eq_getElem hi, Option.some.inj e1 ▸ e2⟩
theorem isE_v : ∀ {xs : List V} {vs : List V}, IsE K H (xs.map Dd.v) vs ↔ vs = xs
  | [], vs => Iff.rfl
  | x :: xs, vs => ⟨fun h => by
      obtain ⟨y, r, rfl, a, b⟩ := h
      rw [isE_v.mp b, show y = x from a], fun h => by
      rw [h]
      exact ⟨x, xs, rfl, rfl, isE_v.mpr rfl⟩⟩
theorem Is.N2L {ds : List Dd} {x : V} (h : Is K H (.N ds) x) : Is K H (.L ds) x := by
  obtain ⟨p, vs, e, q, r⟩ := h
  exact ⟨p, vs, e, sq_of q, r⟩
theorem Is.n2N {xs : List V} {x : V} (h : Is K H (.n xs) x) : Is K H (.N (xs.map Dd.v)) x := by
  obtain ⟨p, e, q⟩ := h
  exact ⟨p, xs, e, q, isE_v.mpr rfl⟩
theorem Is.N2n {xs : List V} {x : V} (h : Is K H (.N (xs.map Dd.v)) x) : Is K H (.n xs) x := by
  obtain ⟨p, vs, e, q, r⟩ := h
  rw [isE_v.mp r] at q
  exact ⟨p, e, q⟩
theorem Is.L2l {xs : List V} {x : V} (h : Is K H (.L (xs.map Dd.v)) x) : Is K H (.l xs) x := by
  obtain ⟨p, vs, e, q, r⟩ := h
  rw [isE_v.mp r] at q
  exact ⟨p, e, q⟩
theorem Is.l2L {xs : List V} {x : V} (h : Is K H (.l xs) x) : Is K H (.L (xs.map Dd.v)) x := by
  obtain ⟨p, e, q⟩ := h
  exact ⟨p, xs, e, q, isE_v.mpr rfl⟩
theorem Is.U2u {xs : List V} {x : V} (h : Is K H (.U (xs.map Dd.v)) x) : Is K H (.u xs) x := by
  obtain ⟨p, vs, e, q, r⟩ := h
  rw [isE_v.mp r] at q
  exact ⟨p, e, q⟩
theorem Is.u2U {xs : List V} {x : V} (h : Is K H (.u xs) x) : Is K H (.U (xs.map Dd.v)) x := by
  obtain ⟨p, e, q⟩ := h
  exact ⟨p, xs, e, q, isE_v.mpr rfl⟩
end
section
variable {K : PySem.W.Frag} {σ : L2.St} {H H0 H' : Hp} {te ta tb tc : TE} {t u : TT} {tr : TA} {a b : Bool} {d e d1 d2 : Dd} {D : Ends} {tu tw tz : TS} {x y : V} {ds es : List Dd}
theorem Er.as (h : Er K te σ H d) (f : ∀ H1 v, Is K H1 d v → Is K H1 e v) : Er K te σ H e := fun H1 x Q q => h H1 x Q fun v H2 e2 z => q v H2 e2 (f H2 v z)
theorem Er.N2L (h : Er K te σ H (.N ds)) : Er K te σ H (.L ds) := h.as fun _ _ z => z.N2L
theorem er_N (h : Era K tr σ H ds) (hl : ds.length ≤ 100000) : Er K (tLst tr) σ H (.N ds) := fun H1 e1 _ q =>
  h H1 e1 _ fun ws H2 e2 z => ⟨sz_of (by rw [← z.len]; exact hl), fun p hp => q _ _ (e2.trans (Ex.new hp)) ⟨p, ws, rfl, upd_same, isE_all.mpr (z.mono (Ex.new hp))⟩⟩
theorem er_U (h : Era K tr σ H ds) (hl : ds.length ≤ 100000) : Er K (tTup tr) σ H (.U ds) := fun H1 e1 _ q =>
  h H1 e1 _ fun ws H2 e2 z => ⟨sz_of (by rw [← z.len]; exact hl), fun p hp => q _ _ (e2.trans (Ex.new hp)) ⟨p, ws, rfl, st_of upd_same, isE_all.mpr (z.mono (Ex.new hp))⟩⟩
theorem ro_ixLd {i : Nat} (hd : ds[i]? = some d) : Ro K (rIxL K) (.L ds) (.i (i : Int)) d := by
  rintro _ _ H1 ⟨p, vs, rfl, hp, hE⟩ rfl Q q
  obtain ⟨v, hv, z⟩ := isE_at hE hd
  exact ⟨p, vs, (i : Int), v, rfl, rfl, hp, atI_nat hv, q _ H1 (Ex.refl H1) z⟩
theorem ro_ixNd {i : Nat} (hd : ds[i]? = some d) : Ro K (rIxL K) (.N ds) (.i (i : Int)) d := fun v w H1 a b => ro_ixLd hd v w H1 a.N2L b
theorem ro_ixUd {i : Nat} (hd : ds[i]? = some d) : Ro K (rIxT K) (.U ds) (.i (i : Int)) d := by
  rintro _ _ H1 ⟨p, vs, rfl, hp, hE⟩ rfl Q q
  obtain ⟨v, hv, z⟩ := isE_at hE hd
  exact ⟨p, vs, (i : Int), v, rfl, rfl, hp, atI_nat hv, q _ H1 (Ex.refl H1) z⟩
theorem rc_lenLd : Rc K (rLenS K) [.L ds] (.i (ds.length : Int)) := by
  rintro _ H1 (_ | ⟨⟨p, vs, rfl, hp, hE⟩, _ | _⟩) Q q
  exact ⟨p, vs, rfl, .inl hp, q _ H1 (Ex.refl H1) (by rw [isE_len hE]; rfl)⟩
theorem rc_lenNd : Rc K (rLenS K) [.N ds] (.i (ds.length : Int)) := fun vs H1 h Q q => by
  cases h with
  | cons a b => exact rc_lenLd _ H1 (.cons a.N2L b) Q q
theorem rc_lenUd : Rc K (rLenS K) [.U ds] (.i (ds.length : Int)) := by
  rintro _ H1 (_ | ⟨⟨p, vs, rfl, hp, hE⟩, _ | _⟩) Q q
  exact ⟨p, vs, rfl, .inr hp, q _ H1 (Ex.refl H1) (by rw [isE_len hE]; rfl)⟩
theorem ro_catd (h : ds.length + es.length ≤ 100000) : Ro K rCat (.N ds) (.N es) (.N (ds ++ es)) := by
  rintro _ _ H1 ⟨p, us, rfl, hp, h1⟩ ⟨p', vs, rfl, hp', h2⟩ Q q
  exact ⟨p, p', us, vs, rfl, rfl, hp, hp', sz_of (by rw [← isE_len h1, ← isE_len h2]; exact h), fun l hl => q _ _ (Ex.new hl) ⟨l, _, rfl, upd_same, isE_app (IsE.mono (Ex.new hl) h1) (IsE.mono (Ex.new hl) h2)⟩⟩
theorem rc_listLd : Rc K (rListS K) [.L ds] (.N ds) := by
  rintro _ H1 (_ | ⟨⟨p, vs, rfl, hp, hE⟩, _ | _⟩) Q q
  exact ⟨p, vs, rfl, .inl hp, fun l hl => q _ _ (Ex.new hl) ⟨l, vs, rfl, upd_same, IsE.mono (Ex.new hl) hE⟩⟩
theorem rc_listUd : Rc K (rListS K) [.U ds] (.N ds) := by
  rintro _ H1 (_ | ⟨⟨p, vs, rfl, hp, hE⟩, _ | _⟩) Q q
  exact ⟨p, vs, rfl, .inr hp, fun l hl => q _ _ (Ex.new hl) ⟨l, vs, rfl, upd_same, IsE.mono (Ex.new hl) hE⟩⟩
theorem rc_tupLd : Rc K (rTupS K) [.L ds] (.U ds) := by
  rintro _ H1 (_ | ⟨⟨p, vs, rfl, hp, hE⟩, _ | _⟩) Q q
  exact ⟨p, vs, rfl, .inl ⟨hp, fun l hl => q _ _ (Ex.new hl) ⟨l, vs, rfl, st_of upd_same, IsE.mono (Ex.new hl) hE⟩⟩⟩
theorem rc_tupNd : Rc K (rTupS K) [.N ds] (.U ds) := fun vs H1 h Q q => by
  cases h with
  | cons a b => exact rc_tupLd _ H1 (.cons a.N2L b) Q q
theorem rc_tupUd : Rc K (rTupS K) [.U ds] (.U ds) := by
  rintro _ H1 (_ | ⟨⟨p, vs, rfl, hp, hE⟩, _ | _⟩) Q q
  exact ⟨p, vs, rfl, .inr ⟨hp, q _ H1 (Ex.refl H1) ⟨p, vs, rfl, hp, hE⟩⟩⟩
theorem er_slLTo {n : Nat} (h : Er K te σ H (.L ds)) (h2 : Er K tb σ H (.i (n : Int))) : Er K (tSl (rSlL K) te tNoPart (tPart tb)) σ H (.N (ds.take n)) := fun H1 e1 _ q =>
  h H1 e1 _ fun v H2 e2 ⟨p, vs, ep, hp, hE⟩ => eo_non H2 (e1.trans e2) _ fun H3 e3 => eo_of h2 H3 ((e1.trans e2).trans e3) _ fun H4 e4 => by
    subst ep
    refine ⟨p, vs, rfl, ex_l (e3.trans e4) hp, fun l hl => q _ _ (((e2.trans e3).trans e4).trans (Ex.new hl)) ⟨l, _, rfl, upd_same, ?_⟩⟩
    have ec : cutV vs none (some (n : Int)) = vs.take n := by
      unfold cutV
      rw [HT.sIx_none, HT.sIx_nat]
      rw [List.drop_zero, Nat.sub_zero, List.take_eq_take_iff]
      omega
    rw [ec]
    exact isE_take n (IsE.mono ((e3.trans e4).trans (Ex.new hl)) hE)
theorem er_slLFrom {n : Nat} (h : Er K te σ H (.L ds)) (h2 : Er K tb σ H (.i (n : Int))) : Er K (tSl (rSlL K) te (tPart tb) tNoPart) σ H (.N (ds.drop n)) := fun H1 e1 _ q =>
  h H1 e1 _ fun v H2 e2 ⟨p, vs, ep, hp, hE⟩ => eo_of h2 H2 (e1.trans e2) _ fun H3 e3 => eo_non H3 ((e1.trans e2).trans e3) _ fun H4 e4 => by
    subst ep
    refine ⟨p, vs, rfl, ex_l (e3.trans e4) hp, fun l hl => q _ _ (((e2.trans e3).trans e4).trans (Ex.new hl)) ⟨l, _, rfl, upd_same, ?_⟩⟩
    rw [cutV_from]
    exact isE_drop n (IsE.mono ((e3.trans e4).trans (Ex.new hl)) hE)
end
end Mi

set_option maxHeartbeats 2000000
namespace Mi
open PySem PySem.Spec PyProof.Rows L2 Evl
/-! ### a view G of the heap A: what is not changed any more; lists that still grow stand outside of it -/
structure Step (G A G' A' : Hp) : Prop where
  g : Ex G G'
  v : Ex G' A'
  a : Ex A A'
  f : ∀ b, A b ≠ none → G b = none → G' b = none
theorem ex_out {G A : Hp} (e : Ex G A) {b : Addr} (h : A b = none) : G b = none := by
  cases q : G b with
  | none => rfl
  | some o => rw [e b o q] at h; cases h
theorem Step.refl {G A : Hp} (e : Ex G A) : Step G A G A := ⟨Ex.refl G, e, Ex.refl A, fun _ _ h => h⟩
theorem Step.trans {G A G1 A1 G2 A2 : Hp} (s : Step G A G1 A1) (t : Step G1 A1 G2 A2) : Step G A G2 A2 :=
  ⟨s.g.trans t.g, t.v, s.a.trans t.a, fun b h h2 => by
    refine t.f b ?_ (s.f b h h2)
    cases q : A b with
    | none => exact absurd q h
    | some o => rw [s.a b o q]; simp⟩
/-- only the heap went on -/
theorem Step.on {G A A' : Hp} (e : Ex G A) (a : Ex A A') : Step G A G A' := ⟨Ex.refl G, e.trans a, a, fun _ _ h => h⟩
theorem ex_both {G A : Hp} {p : Addr} {o : HO} (e : Ex G A) (hp : G p = none) : Ex (upd G p o) (upd A p o) := fun b x hb => by
  by_cases q : b = p
  · rw [q, upd_same] at hb ⊢
    exact hb
  · rw [upd_ne q] at hb ⊢
    exact e b x hb
/-- a new object, seen at once -/
theorem Step.new {G A : Hp} {p : Addr} {o : HO} (e : Ex G A) (hp : A p = none) : Step G A (upd G p o) (upd A p o) := by
  have hg := ex_out e hp
  refine ⟨Ex.new hg, ex_both e hg, Ex.new hp, fun b h h2 => ?_⟩
  have hb : b ≠ p := fun z => h (by rw [z]; exact hp)
  rw [upd_ne hb]
  exact h2
/-- a list of ours is done: from here on it is seen -/
theorem Step.seal {G0 A0 G A : Hp} {p : Addr} {o : HO} (s : Step G0 A0 G A) (h0 : A0 p = none) (hg : G p = none) (ha : A p = some o) : Step G0 A0 (upd G p o) A := by
  refine ⟨s.g.trans (Ex.new hg), fun b x hb => ?_, s.a, fun b h h2 => ?_⟩
  · by_cases q : b = p
    · rw [q, upd_same] at hb
      rw [q, ha]
      exact hb
    · rw [upd_ne q] at hb
      exact s.v b x hb
  · have hb : b ≠ p := fun z => h (by rw [z]; exact h0)
    rw [upd_ne hb]
    exact s.f b h h2
/-- a list of ours grows -/
theorem Step.grow {G0 A0 G A : Hp} {p : Addr} {o : HO} (s : Step G0 A0 G A) (h0 : A0 p = none) (hg : G p = none) : Step G0 A0 G (upd A p o) :=
  ⟨s.g, s.v.mut hg, s.a.mut h0, s.f⟩
def Ef (K : PySem.W.Frag) (te : TE) (σ : L2.St) (G : Hp) (d : Dd) : Prop := ∀ G1 A, Ex G G1 → Ex G1 A → ∀ Q : VK, (∀ v G' A', Step G1 A G' A' → Is K G' d v → Q v A') → te σ A Q
def Efa (K : PySem.W.Frag) (ta : TA) (σ : L2.St) (G : Hp) (ds : List Dd) : Prop := ∀ G1 A, Ex G G1 → Ex G1 A → ∀ Q : List V → Hp → Prop, (∀ vs G' A', Step G1 A G' A' → IsAll K G' ds vs → Q vs A') → ta σ A Q
def Rof (K : PySem.W.Frag) (r : R2) (d1 d2 d : Dd) : Prop := ∀ x y G A, Ex G A → Is K G d1 x → Is K G d2 y → ∀ Q : VK, (∀ v G' A', Step G A G' A' → Is K G' d v → Q v A') → r x y A Q
def Rcf (K : PySem.W.Frag) (r : List V → Hp → VK → Prop) (ds : List Dd) (d : Dd) : Prop := ∀ vs G A, Ex G A → IsAll K G ds vs → ∀ Q : VK, (∀ v G' A', Step G A G' A' → Is K G' d v → Q v A') → r vs A Q
section
variable {K : PySem.W.Frag} {σ : L2.St} {G G0 A A' : Hp} {te ta tb tc : TE} {t u : TT} {tr : TA} {d d1 d2 d' : Dd} {x y : V} {r : R2} {ds es : List Dd} {b : Bool}
theorem Ef.mono (e : Ex G0 G) (h : Ef K te σ G0 d) : Ef K te σ G d := fun G1 A e1 e2 Q q => h G1 A (e.trans e1) e2 Q q
theorem Ef.to (h : Ef K te σ G d) (e : d = d') : Ef K te σ G d' := e ▸ h
theorem Ef.as (h : Ef K te σ G d) (f : ∀ H v, Is K H d v → Is K H d' v) : Ef K te σ G d' := fun G1 A e1 e2 Q q => h G1 A e1 e2 Q fun v G' A' s z => q v G' A' s (f G' v z)
theorem Ef.er (h : Ef K te σ G d) : Er K te σ G d := fun H1 e Q q => h H1 H1 e (Ex.refl H1) Q fun v G' A' s z => q v A' s.a (z.mono s.v)
/-- a flat value is seen everywhere -/
theorem ef_flat (h : Er K te σ G (.v x)) : Ef K te σ G (.v x) := fun G1 A e1 e2 Q q => h A (e1.trans e2) Q fun v H2 e z => q v G1 H2 (.on e2 e) z
theorem ef_var {i : Nat} (h : σ[i]? = some (some x)) (hd : Is K G d x) : Ef K (tVar i) σ G d := fun G1 A e1 e2 Q q => ⟨x, h, q x G1 A (.refl e2) (hd.mono e1)⟩
theorem efa_nil : Efa K tNil σ G [] := fun G1 A e1 e2 Q q => q [] G1 A (.refl e2) .nil
theorem efa_cons (h : Ef K ta σ G d) (hr : Efa K tr σ G ds) : Efa K (tCons ta tr) σ G (d :: ds) := fun G1 A e1 e2 Q q =>
  h G1 A e1 e2 _ fun v G2 A2 s z => hr G2 A2 (e1.trans s.g) s.v _ fun vs G3 A3 s3 z3 => q _ G3 A3 (s.trans s3) (.cons (z.mono s3.g) z3)
theorem ef_op (ha : Ef K ta σ G d1) (hb : Ef K tb σ G d2) (hr : Rof K r d1 d2 d) : Ef K (tOp r ta tb) σ G d := fun G1 A e1 e2 Q q =>
  ha G1 A e1 e2 _ fun v1 G2 A2 s z => hb G2 A2 (e1.trans s.g) s.v _ fun v2 G3 A3 s3 z3 => hr v1 v2 G3 A3 s3.v (z.mono s3.g) z3 Q fun v G4 A4 s4 z4 => q v G4 A4 ((s.trans s3).trans s4) z4
theorem ef_cb {rc : List V → Hp → VK → Prop} (h : Efa K tr σ G ds) (hr : Rcf K rc ds d) : Ef K (tCB rc tr) σ G d := fun G1 A e1 e2 Q q =>
  h G1 A e1 e2 _ fun vs G2 A2 s z => hr vs G2 A2 s.v z Q fun v G3 A3 s3 z3 => q v G3 A3 (s.trans s3) z3
theorem ef_N (h : Efa K tr σ G ds) (hl : ds.length ≤ 100000) : Ef K (tLst tr) σ G (.N ds) := fun G1 A e1 e2 Q q =>
  h G1 A e1 e2 _ fun ws G2 A2 s z => ⟨sz_of (by rw [← z.len]; exact hl), fun p hp => q _ _ _ (s.trans (.new s.v hp)) ⟨p, ws, rfl, upd_same, isE_all.mpr (z.mono (Ex.new (ex_out s.v hp)))⟩⟩
theorem ef_U (h : Efa K tr σ G ds) (hl : ds.length ≤ 100000) : Ef K (tTup tr) σ G (.U ds) := fun G1 A e1 e2 Q q =>
  h G1 A e1 e2 _ fun ws G2 A2 s z => ⟨sz_of (by rw [← z.len]; exact hl), fun p hp => q _ _ _ (s.trans (.new s.v hp)) ⟨p, ws, rfl, st_of upd_same, isE_all.mpr (z.mono (Ex.new (ex_out s.v hp)))⟩⟩
theorem rf_ixL {i : Nat} (hd : ds[i]? = some d) : Rof K (rIxL K) (.L ds) (.i (i : Int)) d := by
  rintro _ _ G A e ⟨p, vs, rfl, hp, hE⟩ rfl Q q
  obtain ⟨v, hv, z⟩ := isE_at hE hd
  exact ⟨p, vs, (i : Int), v, rfl, rfl, ex_l e hp, atI_nat hv, q _ G A (.refl e) z⟩
theorem rf_ixN {i : Nat} (hd : ds[i]? = some d) : Rof K (rIxL K) (.N ds) (.i (i : Int)) d := fun v w G A e a b => rf_ixL hd v w G A e a.N2L b
theorem rf_ixU {i : Nat} (hd : ds[i]? = some d) : Rof K (rIxT K) (.U ds) (.i (i : Int)) d := by
  rintro _ _ G A e ⟨p, vs, rfl, hp, hE⟩ rfl Q q
  obtain ⟨v, hv, z⟩ := isE_at hE hd
  exact ⟨p, vs, (i : Int), v, rfl, rfl, ex_t e hp, atI_nat hv, q _ G A (.refl e) z⟩
theorem rf_cat (h : ds.length + es.length ≤ 100000) : Rof K rCat (.N ds) (.N es) (.N (ds ++ es)) := by
  rintro _ _ G A e ⟨p, us, rfl, hp, h1⟩ ⟨p', vs, rfl, hp', h2⟩ Q q
  exact ⟨p, p', us, vs, rfl, rfl, e p _ hp, e p' _ hp', sz_of (by rw [← isE_len h1, ← isE_len h2]; exact h), fun l hl => q _ _ _ (.new e hl) ⟨l, _, rfl, upd_same, isE_app (IsE.mono (Ex.new (ex_out e hl)) h1) (IsE.mono (Ex.new (ex_out e hl)) h2)⟩⟩
theorem rf_listL : Rcf K (rListS K) [.L ds] (.N ds) := by
  rintro _ G A e (_ | ⟨⟨p, vs, rfl, hp, hE⟩, _ | _⟩) Q q
  exact ⟨p, vs, rfl, .inl (ex_l e hp), fun l hl => q _ _ _ (.new e hl) ⟨l, vs, rfl, upd_same, IsE.mono (Ex.new (ex_out e hl)) hE⟩⟩
theorem rf_listU : Rcf K (rListS K) [.U ds] (.N ds) := by
  rintro _ G A e (_ | ⟨⟨p, vs, rfl, hp, hE⟩, _ | _⟩) Q q
  exact ⟨p, vs, rfl, .inr (ex_t e hp), fun l hl => q _ _ _ (.new e hl) ⟨l, vs, rfl, upd_same, IsE.mono (Ex.new (ex_out e hl)) hE⟩⟩
theorem rf_tupL : Rcf K (rTupS K) [.L ds] (.U ds) := by
  rintro _ G A e (_ | ⟨⟨p, vs, rfl, hp, hE⟩, _ | _⟩) Q q
  exact ⟨p, vs, rfl, .inl ⟨ex_l e hp, fun l hl => q _ _ _ (.new e hl) ⟨l, vs, rfl, st_of upd_same, IsE.mono (Ex.new (ex_out e hl)) hE⟩⟩⟩
theorem rf_tupN : Rcf K (rTupS K) [.N ds] (.U ds) := fun vs G A e h Q q => by
  cases h with
  | cons a b => exact rf_tupL _ G A e (.cons a.N2L b) Q q
theorem rf_tupU : Rcf K (rTupS K) [.U ds] (.U ds) := by
  rintro _ G A e (_ | ⟨⟨p, vs, rfl, hp, hE⟩, _ | _⟩) Q q
  exact ⟨p, vs, rfl, .inr ⟨ex_t e hp, q _ G A (.refl e) ⟨p, vs, rfl, hp, hE⟩⟩⟩
/-- calls of the text's own defs -/
def spF (K : PySem.W.Frag) {T : Type} (pre : T → Prop) (args : T → List Dd) (ret : T → Dd) : Sp := fun vs A Q _ => ∃ a : T, pre a ∧ ∃ G, Ex G A ∧ IsAll K G (args a) vs ∧ ∀ v G' A', Step G A G' A' → Is K G' (ret a) v → Q v A'
theorem ef_call {T : Type} {pre : T → Prop} {args : T → List Dd} {ret : T → Dd} {E : XK} (a : T) (h : Efa K tr σ G ds) (hd : ds = args a) (hp : pre a) : Ef K (tCall (spF K pre args ret) [] E tr) σ G (ret a) := fun G1 A e1 e2 Q q =>
  h G1 A e1 e2 _ fun vs G2 A2 s z => by
    rw [List.append_nil]
    exact ⟨a, hp, G2, s.v, hd ▸ z, fun v G3 A3 s3 z3 => q v G3 A3 (s.trans s3) z3⟩
/-- what is told of views holds of heaps -/
theorem spF_of {T : Type} {pre : T → Prop} {args : T → List Dd} {ret : T → Dd} : ∀ vs H Q E, spR K pre args ret vs H Q E → spF K pre args ret vs H Q E := by
  rintro vs H Q E ⟨a, hp, hv, hk⟩
  exact ⟨a, hp, H, Ex.refl H, hv, fun v G' A' s z => hk v A' s.a (z.mono s.v)⟩
theorem ef_if {b : Bool} (h : ∀ A, Ex G A → Et K t σ A b) (h1 : b = true → Ef K ta σ G d) (h2 : b = false → Ef K tb σ G d) : Ef K (tIf t ta tb) σ G d := fun G1 A e1 e2 Q q =>
  h A (e1.trans e2) A (Ex.refl A) _ fun A2 ea => by
    cases b with
    | true => exact h1 rfl G1 A2 e1 (e2.trans ea) Q fun v G' A' s z => q v G' A' ((Step.on e2 ea).trans s) z
    | false => exact h2 rfl G1 A2 e1 (e2.trans ea) Q fun v G' A' s z => q v G' A' ((Step.on e2 ea).trans s) z
end
end Mi

set_option maxHeartbeats 2000000
namespace Mi
open PySem PySem.Spec PyProof.Rows L2 Evl
/-! ### what is walked, seen from a view -/
def Wk (K : PySem.W.Frag) (J : It) (G2 : Hp) (ds : List Dd) : Prop := ∀ i G' A', Ex G2 G' → Ex G' A' → (∀ d, ds[i]? = some d → J.go i A' ∧ ∀ v A'', J.yld i A' v A'' → ∃ G'', Step G' A' G'' A'' ∧ Is K G'' d v) ∧ (i = ds.length → J.stop i A')
def Itf (K : PySem.W.Frag) (wi : TI) (σ : L2.St) (G : Hp) (ds : List Dd) : Prop := ∀ G1 A, Ex G G1 → Ex G1 A → ∀ R, (∀ J G2 A2, Step G1 A G2 A2 → Wk K J G2 ds → R J A2) → wi σ A R
section
variable {K : PySem.W.Frag} {σ : L2.St} {G G0 A A' : Hp} {te tl tb : TE} {t : TT} {ta : TA} {wi : TI} {g : TG} {d e d1 d2 : Dd} {D : Ends} {tu tz : TS} {v x : V} {ds es : List Dd} {b : Bool}
theorem if_list (h : Ef K tl σ G (.L ds)) : Itf K (iList K tl) σ G ds := fun G1 A e1 e2 R r =>
  h G1 A e1 e2 _ fun v G2 A2 s ⟨p, vs, ep, hp, hE⟩ => by
    subst ep
    refine ⟨p, rfl, ⟨vs, ex_l s.v hp⟩, r _ G2 A2 s fun i G' A' e3 e4 => ⟨fun d hd => ?_, fun hi => ⟨vs, ex_l (e3.trans e4) hp, by rw [← isE_len hE]; omega⟩⟩⟩
    obtain ⟨y, hy, z⟩ := isE_at hE hd
    refine ⟨⟨vs, y, ex_l (e3.trans e4) hp, hy⟩, fun v A'' hyl => ?_⟩
    obtain ⟨rfl, hall⟩ := hyl
    have ev := (hall vs (ex_l (e3.trans e4) hp)).symm.trans hy
    rw [Option.some.inj ev]
    exact ⟨G', .refl e4, z.mono e3⟩
theorem if_tup (h : Ef K tl σ G (.U ds)) : Itf K (iTup K tl) σ G ds := fun G1 A e1 e2 R r =>
  h G1 A e1 e2 _ fun v G2 A2 s ⟨p, vs, ep, hp, hE⟩ => by
    subst ep
    refine ⟨p, rfl, ⟨vs, ex_t s.v hp⟩, r _ G2 A2 s fun i G' A' e3 e4 => ⟨fun d hd => ?_, fun hi => ⟨vs, ex_t (e3.trans e4) hp, by rw [← isE_len hE]; omega⟩⟩⟩
    obtain ⟨y, hy, z⟩ := isE_at hE hd
    refine ⟨⟨vs, y, ex_t (e3.trans e4) hp, hy⟩, fun v A'' hyl => ?_⟩
    obtain ⟨rfl, hall⟩ := hyl
    have ev := (hall vs (ex_t (e3.trans e4) hp)).symm.trans hy
    rw [Option.some.inj ev]
    exact ⟨G', .refl e4, z.mono e3⟩
theorem if_range {n : Nat} (h : Era K ta σ G [.i (n : Int)]) (hn : n ≤ 100000) : Itf K (iRng1 ta) σ G ((List.range n).map fun i : Nat => Dd.i (i : Int)) := fun G1 A e1 e2 R r =>
  h A (e1.trans e2) _ fun vs A2 ea z => by
    rcases z with _ | ⟨rfl, _ | _⟩
    refine ⟨(n : Int), rfl, by omega, by omega, r _ G1 A2 (.on e2 ea) fun i G' A' e3 e4 => ⟨fun d hd => ?_, fun hi => ?_⟩⟩
    · have hi : i < n := by
        have := (List.getElem?_eq_some_iff.mp hd).1
        simpa using this
      rw [List.getElem?_map, List.getElem?_range hi] at hd
      have ed := Option.some.inj hd
      refine ⟨show i < (n : Int).toNat by omega, fun v A'' hyl => ?_⟩
      obtain ⟨rfl, rfl⟩ := hyl
      refine ⟨G', .refl e4, ?_⟩
      rw [← ed]
      show V.int (0 + (i : Int)) = V.int (i : Int)
      rw [Int.zero_add]
    · show (n : Int).toNat ≤ i
      rw [List.length_map, List.length_range] at hi
      omega
theorem if_text {z : List Nat} (h : Er K tl σ G (.s (S z))) : Itf K (iStr tl) σ G (z.map fun c => Dd.s (S [c])) := fun G1 A e1 e2 R r =>
  h A (e1.trans e2) _ fun v A2 ea ev => by
    refine ⟨S z, ev, r _ G1 A2 (.on e2 ea) fun i G' A' e3 e4 => ⟨fun d hd => ?_, fun hi => ?_⟩⟩
    · rw [List.getElem?_map] at hd
      cases hc : z[i]? with
      | none => rw [hc] at hd; cases hd
      | some c =>
        rw [hc] at hd
        have ed := Option.some.inj hd
        have hi := (List.getElem?_eq_some_iff.mp hc).1
        refine ⟨show i < (S z).cps.size by rw [S_size]; exact hi, fun v A'' hyl => ?_⟩
        obtain ⟨rfl, c', hc', rfl⟩ := hyl
        rw [S_at, hc] at hc'
        rw [← ed, ← Option.some.inj hc']
        exact ⟨G', .refl e4, rfl⟩
    · show (S z).cps.size ≤ i
      rw [S_size]
      rw [List.length_map] at hi
      omega
theorem if_pairs {ps : List (V × V)} {wi : TI} (h : ∀ A, Ex G A → ∀ R, (∀ A2, Ex A A2 → R (ItP ps) A2) → wi σ A R) : Itf K wi σ G (ps.map fun p => Dd.U [.v p.1, .v p.2]) := fun G1 A e1 e2 R r =>
  h A (e1.trans e2) R fun A2 ea => r _ G1 A2 (.on e2 ea) fun i G' A' e3 e4 => ⟨fun d hd => by
    rw [List.getElem?_map] at hd
    cases hc : ps[i]? with
    | none => rw [hc] at hd; cases hd
    | some p =>
      rw [hc] at hd
      have ed := Option.some.inj hd
      refine ⟨(List.getElem?_eq_some_iff.mp hc).1, fun v A'' hyl => ?_⟩
      obtain ⟨T, x, y, rfl, hT, rfl, hxy⟩ := hyl
      rw [hc] at hxy
      have ep := Option.some.inj hxy
      rw [← ed, ep]
      exact ⟨_, .new e4 hT, T, [x, y], rfl, st_of upd_same, x, [y], rfl, rfl, y, [], rfl, rfl, rfl⟩, fun hi => by
    rw [List.length_map] at hi
    exact hi⟩
theorem if_zipS {a b : List Nat} (h : Era K ta σ G [.s (S a), .s (S b)]) : Itf K (iZipS ta) σ G ((a.zip b).map fun p => Dd.U [.s (S [p.1]), .s (S [p.2])]) := by
  have e : (a.zip b).map (fun p => Dd.U [.s (S [p.1]), .s (S [p.2])]) = (zipS (S a) (S b)).map fun p => Dd.U [.v p.1, .v p.2] := by
    unfold zipS
    rw [List.map_map]
    rfl
  rw [e]
  exact if_pairs fun A e1 R r => h A e1 _ fun vs A2 ea z => by
    rcases z with _ | ⟨rfl, _ | ⟨rfl, _ | _⟩⟩
    exact ⟨S a, S b, rfl, r A2 ea⟩
/-- a loop over what is walked -/
theorem f_for (h : Itf K wi σ G ds) (hA : Ex G A) (Pv : Nat → L2.St → Hp → Hp → Prop) (h0 : ∀ G1 A1, Step G A G1 A1 → Pv 0 σ G1 A1)
    (hs : ∀ G1, Ex G G1 → ∀ i d v σ' G' A' G2 A2, ds[i]? = some d → Pv i σ' G' A' → Ex G1 G' → Ex G' A' → Step G' A' G2 A2 → Is K G2 d v → g v σ' A2 fun σ2 A3 => tu { D with nx := fun σ3 A4 => ∃ G4, Pv (i + 1) σ3 G4 A4 ∧ Ex G1 G4 ∧ Ex G4 A4, ct := fun σ3 A4 => ∃ G4, Pv (i + 1) σ3 G4 A4 ∧ Ex G1 G4 ∧ Ex G4 A4, bk := D.nx } σ2 A3)
    (hd : ∀ σ' G' A', Ex G G' → Ex G' A' → Pv ds.length σ' G' A' → D.nx σ' A') : tFor wi g tu D σ A :=
  h G A (Ex.refl G) hA _ fun J G1 A1 s hw => by
    refine ⟨fun i m σ' A' => m = ds.length - i ∧ i ≤ ds.length ∧ ∃ G', Pv i σ' G' A' ∧ Ex G1 G' ∧ Ex G' A', ⟨_, rfl, Nat.zero_le _, G1, h0 G1 A1 s, Ex.refl G1, s.v⟩, ?_⟩
    rintro i m σ' A' ⟨rfl, hi, G', p, eg, ea⟩
    by_cases hlt : i < ds.length
    · have hd' : ds[i]? = some ds[i] := List.getElem?_eq_getElem hlt
      obtain ⟨go, yl⟩ := (hw i G' A' eg ea).1 _ hd'
      refine .inr ⟨go, fun σ3 A4 => ∃ G4, Pv (i + 1) σ3 G4 A4 ∧ Ex G1 G4 ∧ Ex G4 A4, fun σ3 A4 q => ⟨ds.length - (i + 1), by omega, rfl, hlt, q⟩, fun v A'' y => ?_⟩
      obtain ⟨G2, s2, z⟩ := yl v A'' y
      exact hs G1 s.g i _ v σ' G' A' G2 A'' hd' p eg ea s2 z
    · have e : i = ds.length := by omega
      subst e
      exact .inl ⟨(hw _ G' A' eg ea).2 rfl, hd σ' G' A' (s.g.trans eg) ea p⟩
theorem b_for (h : Itf K wi σ G ds) (hA : Ex G A) (Pv : Nat → L2.St → Hp → Hp → Prop) (h0 : ∀ G1 A1, Step G A G1 A1 → Pv 0 σ G1 A1)
    (hs : ∀ G1, Ex G G1 → ∀ i d v σ' G' A' G2 A2, ds[i]? = some d → Pv i σ' G' A' → Ex G1 G' → Ex G' A' → Step G' A' G2 A2 → Is K G2 d v → g v σ' A2 fun σ2 A3 => tu { D with nx := fun σ3 A4 => ∃ G4, Pv (i + 1) σ3 G4 A4 ∧ Ex G1 G4 ∧ Ex G4 A4, ct := fun σ3 A4 => ∃ G4, Pv (i + 1) σ3 G4 A4 ∧ Ex G1 G4 ∧ Ex G4 A4, bk := tz D } σ2 A3)
    (hd : ∀ σ' G' A', Ex G G' → Ex G' A' → Pv ds.length σ' G' A' → tz D σ' A') : tSeq (tFor wi g tu) tz D σ A := f_for (D := { D with nx := tz D }) h hA Pv h0 hs hd
/-- two names for a pair -/
theorem g_two {j1 j2 : Nat} {Q : L2.St → Hp → Prop} (hA : Ex G A) (h : Is K G (.U [d1, d2]) v) (k : ∀ v1 v2, Is K G d1 v1 → Is K G d2 v2 → Q ((σ.set j1 (some v1)).set j2 (some v2)) A) : gTup K 2 (gCons (gName j1) (gCons (gName j2) gNil)) v σ A Q := by
  obtain ⟨T, vs, rfl, hT, x, r, rfl, hx, y, r2, rfl, hy, hr⟩ := h
  have er : r2 = [] := hr
  subst er
  exact ⟨T, [x, y], rfl, ex_t hA hT, rfl, x, [y], rfl, y, [], rfl, rfl, k x y hx hy⟩
/-- a comprehension over what is walked -/
theorem ef_lc {α : Type} {its : List α} {inj : α → Dd} {vs : List Nat} (f : α → Bool) (gd : α → Dd) (h : Itf K wi σ G (its.map inj)) (hz : its.length ≤ 50000)
    (hs : ∀ (i : Nat) x v G' A', Ex G G' → Ex G' A' → its[i]? = some x → Is K G' (inj x) v → ∃ σ2, (∀ Q : L2.St → Hp → Prop, Q σ2 A' → g v (wipe σ vs) A' Q) ∧ wipe σ2 vs = wipe σ vs ∧ Et K t σ2 A' (f x) ∧ (f x = true → Ef K te σ2 G' (gd x))) :
    Ef K (tLc wi g t te vs) σ G (.N ((its.filter f).map gd)) := fun G0 A0 e0 ea0 Q q =>
  h G0 A0 e0 ea0 _ fun J G1 A1 s1 hw => fun Dl hD => by
    have gD := ex_out s1.v hD
    refine ⟨fun i m A' => m = its.length - i ∧ i ≤ its.length ∧ ∃ G', Step G1 A1 G' A' ∧ G' Dl = none ∧ ∃ us, A' Dl = some (.lst us) ∧ IsE K G' (((its.take i).filter f).map gd) us, ⟨_, rfl, Nat.zero_le _, G1, .on s1.v (Ex.new hD), gD, [], upd_same, rfl⟩, ?_⟩
    rintro i m A' ⟨rfl, hi, G', st, hg, us, hu, hE⟩
    by_cases hlt : i < its.length
    · have hx : its[i]? = some its[i] := List.getElem?_eq_getElem hlt
      have hd' : (its.map inj)[i]? = some (inj its[i]) := by rw [List.getElem?_map, hx]; rfl
      obtain ⟨go, yl⟩ := (hw i G' A' st.g st.v).1 _ hd'
      refine .inr ⟨go, fun A3 => ∃ G3, Step G1 A1 G3 A3 ∧ G3 Dl = none ∧ ∃ us, A3 Dl = some (.lst us) ∧ IsE K G3 (((its.take (i + 1)).filter f).map gd) us, fun A3 p3 => ⟨its.length - (i + 1), by omega, rfl, hlt, p3⟩, fun v A'' y => ?_⟩
      obtain ⟨G2, s2, z⟩ := yl v A'' y
      have uN : A' Dl ≠ none := by rw [hu]; simp
      have g2 := s2.f Dl uN hg
      have u2 := s2.a Dl _ hu
      obtain ⟨σ2, hgt, hwp, htt, hte⟩ := hs i _ v G2 A'' ((e0.trans s1.g).trans (st.g.trans s2.g)) s2.v hx z
      have hl : us.length ≤ i := by
        rw [← isE_len hE, List.length_map]
        refine Nat.le_trans (List.length_filter_le _ _) ?_
        rw [List.length_take]
        exact Nat.min_le_left _ _
      refine hgt _ ⟨hwp, htt A'' (Ex.refl _) _ fun A3 e3 => ?_⟩
      have hn : (its.take (i + 1)).filter f = (its.take i).filter f ++ if f its[i] = true then [its[i]] else [] := by
        rw [List.take_add_one, hx]
        simp only [Option.toList, List.filter_append]
        congr 1
        by_cases hf : f its[i] = true
        · simp [hf]
        · simp [hf]
      have s3 := (st.trans s2).trans (Step.on s2.v e3)
      have u3 := e3 Dl _ u2
      by_cases hf : f its[i] = true
      · rw [if_pos hf]
        refine hte hf G2 A3 (Ex.refl G2) s3.v _ fun w G4 A4 s4 zw => ⟨us, s4.a Dl _ u3, sz_lt (by omega), ?_⟩
        have g4 := s4.f Dl (by rw [u3]; simp) g2
        refine ⟨G4, (s3.trans s4).grow hD g4, g4, us ++ [w], upd_same, ?_⟩
        rw [hn, if_pos hf, List.map_append]
        exact isE_app (IsE.mono (s2.g.trans s4.g) hE) ⟨w, [], rfl, zw, rfl⟩
      · rw [if_neg hf]
        refine ⟨G2, s3, g2, us, u3, ?_⟩
        rw [hn, if_neg hf, List.append_nil]
        exact IsE.mono s2.g hE
    · have e : i = its.length := by omega
      subst e
      refine .inl ⟨(hw _ G' A' st.g st.v).2 (by rw [List.length_map]), q _ (upd G' Dl (.lst us)) A' (s1.trans (st.seal hD hg hu)) ⟨Dl, us, rfl, upd_same, ?_⟩⟩
      rw [List.take_length] at hE
      exact IsE.mono (Ex.new hg) hE
/-! ### statements -/
theorem s_set {i : Nat} (h : Ef K te σ G d) (hA : Ex G A) (k : ∀ v G' A', Step G A G' A' → Is K G' d v → tz D (σ.set i (some v)) A') : tSeq (tAsg te (gName i)) tz D σ A := h G A (Ex.refl G) hA _ fun v G' A' s z => k v G' A' s z
theorem s_set1 {i : Nat} (h : Ef K te σ G d) (hA : Ex G A) (k : ∀ v G' A', Step G A G' A' → Is K G' d v → D.nx (σ.set i (some v)) A') : tAsg te (gName i) D σ A := h G A (Ex.refl G) hA _ fun v G' A' s z => k v G' A' s z
theorem s_ret {d' : Dd} (h : Ef K te σ G d) (hA : Ex G A) (hd : d = d') (k : ∀ v G' A', Step G A G' A' → Is K G' d' v → D.rt v A') : tRet te D σ A := h G A (Ex.refl G) hA _ fun v G' A' s z => k v G' A' s (hd ▸ z)
theorem s_new {i : Nat} (hA : Ex G A) (k : ∀ p A', A p = none → G p = none → Step G A G A' → A' p = some (.lst []) → tz D (σ.set i (some (.ref p))) A') : tSeq (tAsg (tLst tNil) (gName i)) tz D σ A :=
  ⟨Nat.zero_le _, fun p hp => k p _ hp (ex_out hA hp) (.on hA (Ex.new hp)) upd_same⟩
theorem s_app {l : Addr} {us : List V} (hl : A l = some (.lst us)) (hg : G l = none) (hA : Ex G A) (ha : Er K tl σ A (.v (.ref l))) (h : Ef K te σ G d) (hz : us.length < 100000) (k : ∀ w G' A', Step G A G' A' → Is K G' d w → G' l = none → A' l = some (.lst us) → D.nx σ (upd A' l (.lst (us ++ [w])))) :
    tDrop (tBM K "list" rAppend tl (tCons te tNil)) D σ A := ha A (Ex.refl A) _ fun v A1 e1 z1 => by
  have ez : v = .ref l := z1
  subst ez
  have h1 := e1 l _ hl
  exact ⟨Or.inl ⟨rfl, us, sq_of h1⟩, h G A1 (Ex.refl G) (hA.trans e1) _ fun w G2 A2 s2 z2 => ⟨l, us, w, rfl, rfl, s2.a l _ h1, sz_lt hz, k w G2 A2 ((Step.on hA e1).trans s2) z2 (s2.f l (by rw [h1]; simp) hg) (s2.a l _ h1)⟩⟩
end
theorem At.hasF {P : Program} {w : World} {K : PySem.W.Frag} {mg : Str → Option Value} {base : Heap} {x : Str} {st : Stmt} {N ps : List Str} {k : Nat} {T : Type} {pre : T → Prop} {args : T → List Dd} {ret : T → Dd}
    (h : At K mg x st ps) (Sc : FnScope N ps (defScope st)) (hl : ∀ a, (args a).length = ps.length)
    (hbody : ∀ (f : Addr) (cdv : Value) (Ar : Around) (outer : List Env) (s : Shared) (G A : Hp) (a : T) (vs : List V) (Q : VK) (E : XK), Room k (Ar.deeper (envOfC x (defScope st) s.heap.objs.size f cdv)) → pre a → Ex G A → IsAll K G (args a) vs →
      (∀ v G' A', Step G A G' A' → Is K G' (ret a) v → Q v A') →
      ∃ t, PSs (cxOf CX0 P w K mg base N x (defScope st) f cdv Ar outer s A E).nox (defBody st) t ∧ t { nx := fun _ A' => Q .non A', rt := Q } (start N vs) A) :
    Has P w K mg base (k + 1) x ps (spF K pre args ret) := by
  obtain ⟨f, fd, hm, F, b0, b1, b2⟩ := h.ex
  refine ⟨f, fd, hm, F.kp, F.ok Sc (fun vs H Q E hsp => ?_) (fun cdv Ar outer s A vs Q E hr hsp => ?_), b0, b1, b2⟩
  · obtain ⟨a, _, G, _, hv, _⟩ := hsp
    rw [← hv.len, hl]
  · obtain ⟨a, hp, G, hA, hv, hk⟩ := hsp
    exact hbody f cdv Ar outer s G A a vs Q E hr hp hA hv hk
end Mi

set_option maxHeartbeats 2000000
namespace Mi
open PySem PySem.Spec PyProof.Rows L2 Evl
def rMin2' : List V → Hp → VK → Prop := fun xs H Q => ∃ i j, xs = [.int i, .int j] ∧ Q (.int (if j < i then j else i)) H
theorem cr_min2' {X : Cx} (hc : X.calm = true := by rfl) : CallR X (.builtin "min") rMin2' := call_min2 hc
theorem cr_sum_k {X : Cx} {K : PySem.W.Frag} (h : X.K = K := by rfl) (hc : X.calm = true := by rfl) : CallR X (.builtin "sum") (rSum K) := h ▸ cr_sum hc
theorem cr_all_k {X : Cx} {K : PySem.W.Frag} (h : X.K = K := by rfl) (hc : X.calm = true := by rfl) : CallR X (.builtin "all") (rAll K) := h ▸ cr_all hc
section
variable {K : PySem.W.Frag} {σ : L2.St} {G A H H' : Hp} {te ta tb tc : TE} {t u : TT} {tr : TA} {d d1 d2 d3 : Dd} {x y : V} {r r' : R2} {b1 b2 : Bool}
theorem rc_min2 {i j : Int} : Rc K rMin2' [.i i, .i j] (.i (if j < i then j else i)) := by
  rintro _ H1 (_ | ⟨rfl, _ | ⟨rfl, _ | _⟩⟩) Q q
  exact ⟨i, j, rfl, q _ H1 (Ex.refl H1) rfl⟩
theorem rc_sumI {ns : List Int} : Rc K (rSum K) [.l (vis ns)] (.i ns.sum) := by
  rintro _ H1 (_ | ⟨⟨p, rfl, hp⟩, _ | _⟩) Q q
  exact ⟨p, ns, rfl, hp, q _ H1 (Ex.refl H1) rfl⟩
theorem rc_allB {bs : List Bool} : Rc K (rAll K) [.l (bs.map V.bl)] (.b (bs.all id)) := by
  rintro _ H1 (_ | ⟨⟨p, rfl, hp⟩, _ | _⟩) Q q
  exact ⟨p, bs, rfl, hp, q _ H1 (Ex.refl H1) rfl⟩
theorem rc_allBN {bs : List Bool} : Rc K (rAll K) [.n (bs.map V.bl)] (.b (bs.all id)) := fun vs H1 h Q q => by
  cases h with
  | cons a b => exact rc_allB _ H1 (.cons a.n2l b) Q q
/-- a op b op' c -/
theorem er_chain (ha : Er K ta σ H d1) (hb : Er K tb σ H d2) (hr : Ro K r d1 d2 (.b b1)) (hc : b1 = true → Er K tc σ H d3) (hr' : b1 = true → Ro K r' d2 d3 (.b b2)) : Er K (tChain r r' ta tb tc) σ H (.b (b1 && b2)) := fun H1 e Q q =>
  ha H1 e _ fun v1 H2 e2 z1 => hb H2 (e.trans e2) _ fun v2 H3 e3 z2 => hr v1 v2 H3 (z1.mono e3) z2 _ fun w H4 e4 zw => ⟨b1, zw, by
    cases b1 with
    | true =>
      rw [if_pos rfl]
      exact hc rfl H4 (((e.trans e2).trans e3).trans e4) _ fun v3 H5 e5 z3 => hr' rfl v2 v3 H5 ((z2.mono e4).mono e5) z3 Q fun w H6 e6 z6 => q w H6 ((((e2.trans e3).trans e4).trans e5).trans e6) z6
    | false =>
      rw [if_neg Bool.false_ne_true]
      exact q _ H4 ((e2.trans e3).trans e4) rfl⟩
end
end Mi

set_option maxHeartbeats 2000000
namespace Mi
open PySem PySem.Spec PyProof.Rows L2 Evl
theorem cutS_mid (l : List Nat) (n m : Nat) (hm : m ≤ l.length) : cutS (S l) (some (n : Int)) (some (m : Int)) = S ((l.drop n).take (m - n)) := by
  unfold cutS
  rw [HT.sIx_nat, HT.sIx_nat, S_len, S_list]
  show S _ = S _
  congr 1
  have e2 : min m l.length = m := by omega
  by_cases h : n ≤ l.length
  · have e1 : min n l.length = n := by omega
    rw [e1, e2]
  · have e1 : min n l.length = l.length := by omega
    rw [e1, e2, List.drop_length, List.drop_of_length_le (by omega : l.length ≤ n), List.take_nil, List.take_nil]
section
variable {K : PySem.W.Frag} {σ : L2.St} {H : Hp} {te ta tb : TE} {t : TT}
theorem er_slMidS {l : List Nat} {n m : Nat} (h : Er K te σ H (.s (S l))) (hz : l.length ≤ 100000) (h1 : Er K ta σ H (.i (n : Int))) (h2 : Er K tb σ H (.i (m : Int))) (hm : m ≤ l.length) : Er K (tSl rSlS te (tPart ta) (tPart tb)) σ H (.s (S ((l.drop n).take (m - n)))) := by
  rw [← cutS_mid _ _ _ hm]
  exact er_slS h (by rw [S_len]; exact hz) (eo_of h1) (eo_of h2)
theorem er_dash {n : Nat} {te tn : TE} (h1 : Er K te σ H (.s (S [45]))) (h2 : Er K tn σ H (.i (n : Int))) (hn : n ≤ 1000) : Er K (tOp rMulS te tn) σ H (.s (S (List.replicate n 45))) := Er.to (er_op h1 h2 (ro_mulC hn (by decide))) (by rw [List.flatten_replicate_singleton])
/-- a text's sign at a place that is known to be whole and not below zero -/
theorem er_sign {l : List Nat} {n : Nat} (h : Er K te σ H (.s (S l))) (h2 : Er K ta σ H (.i (n : Int))) (hn : n < l.length) (hz : l.length ≤ 100000) : Er K (tOp rIxS te ta) σ H (.s (S [l.getD n 0])) := Er.to (er_op h h2 (ro_ixC (by omega) (by omega) hz)) (by rw [Int.toNat_natCast])
theorem er_num {ns : List Int} {n : Nat} (h : Er K te σ H (.l (vis ns))) (h2 : Er K ta σ H (.i (n : Int))) (hn : n < ns.length) : Er K (tOp (rIxL K) te ta) σ H (.i (ns.getD n 0)) := Er.to (er_op h h2 (ro_ixI (by omega) (by omega))) (by rw [Int.toNat_natCast])
theorem er_numN {ns : List Int} {n : Nat} (h : Er K te σ H (.n (vis ns))) (h2 : Er K ta σ H (.i (n : Int))) (hn : n < ns.length) : Er K (tOp (rIxL K) te ta) σ H (.i (ns.getD n 0)) := Er.to (er_op h h2 (ro_ixIN (by omega) (by omega))) (by rw [Int.toNat_natCast])
theorem er_numL {xs : List Int} {i : Nat} (h : Er K te σ H (.n (vis xs))) (h2 : Er K ta σ H (.i (i : Int))) (hn : i < xs.length) : Er K (tOp (rIxL K) te ta) σ H (.i (xs.getD i 0)) := er_numN h h2 hn
end
end Mi

set_option maxHeartbeats 2000000
namespace Mi
open PySem PySem.Spec PyProof.Rows L2 Evl
section
variable {K : PySem.W.Frag} {σ : L2.St} {G A H : Hp} {te to ti tl ta tb : TE} {t : TT} {tu : TS} {d e : Dd} {D : Ends} {ds es : List Dd} {b : Bool}
theorem s_setitem {l : Addr} {us : List V} {j : Nat} (hl : A l = some (.lst us)) (hg : G l = none) (hA : Ex G A) (h : Ef K te σ G d) (ha : Er K to σ A (.v (.ref l))) (hi : Er K ti σ A (.i (j : Int))) (hj : j < us.length)
    (k : ∀ w G' A', Step G A G' A' → Is K G' d w → G' l = none → A' l = some (.lst us) → D.nx σ (upd A' l (.lst (us.set j w)))) : tAsg te (gSub to ti rSetL) D σ A :=
  h G A (Ex.refl G) hA _ fun w G1 A1 s1 z1 => ha A1 s1.a _ fun v A2 e2 zv => hi A2 (s1.a.trans e2) _ fun i A3 e3 zi => by
    have ev : v = .ref l := zv
    have ei : i = .int (j : Int) := zi
    subst ev
    subst ei
    have l3 := e3 l _ (e2 l _ (s1.a l _ hl))
    refine ⟨l, us, (j : Int), j, rfl, rfl, l3, ?_, k w G1 A3 ((s1.trans (.on s1.v e2)).trans (.on (s1.v.trans e2) e3)) z1 (s1.f l (by rw [hl]; simp) hg) l3⟩
    unfold ixN
    simp
    omega
/-- an if without else: what holds behind it is said once -/
theorem a_whenR {tz : TS} (Pm : L2.St → Hp → Prop) (h : Et K t σ H b) (hr : ∀ σ' H', Pm σ' H' → tz D σ' H') (h1 : (∀ σ' H', Pm σ' H' → tz D σ' H') → b = true → ∀ H1, Ex H H1 → tu { D with nx := tz D } σ H1) (h2 : b = false → ∀ H1, Ex H H1 → Pm σ H1) : tSeq (tIfS t tu tNext) tz D σ H :=
  a_when h (h1 hr) fun hb H1 e1 => hr σ H1 (h2 hb H1 e1)
/-- o[j] = [.., ..], flat items -/
theorem s_setflat {l : Addr} {us xs : List V} {j : Nat} {tr : TA} (hl : A l = some (.lst us)) (hg : G l = none) (hA : Ex G A) (h : Era K tr σ A (xs.map Dd.v)) (hz : xs.length ≤ 100000) (ha : Er K to σ A (.v (.ref l))) (hi : Er K ti σ A (.i (j : Int))) (hj : j < us.length)
    (k : ∀ p G' A', Step G A G' A' → G' p = some (.lst xs) → G' l = none → A' l = some (.lst us) → D.nx σ (upd A' l (.lst (us.set j (.ref p))))) : tAsg (tLst tr) (gSub to ti rSetL) D σ A :=
  h A (Ex.refl A) _ fun ws A1 e1 z => by
    have ew := flat_all z
    subst ew
    refine ⟨sz_of hz, fun p hp => ?_⟩
    have s1 : Step G A (upd G p (.lst ws)) (upd A1 p (.lst ws)) := (Step.on hA e1).trans (.new (hA.trans e1) hp)
    refine ha _ s1.a _ fun v A2 e2 zv => hi A2 (s1.a.trans e2) _ fun i A3 e3 zi => ?_
    have ev : v = .ref l := zv
    have ei : i = .int (j : Int) := zi
    subst ev
    subst ei
    have l3 := e3 l _ (e2 l _ (s1.a l _ hl))
    exact ⟨l, us, (j : Int), j, rfl, rfl, l3, ixN_nat hj, k p _ A3 ((s1.trans (.on s1.v e2)).trans (.on (s1.v.trans e2) e3)) upd_same (s1.f l (by rw [hl]; simp) hg) l3⟩
/-- items that are read as lists where they stand as lists of ours -/
theorem isE_map {α : Type} {f g : α → Dd} (h : ∀ x H v, Is K H (f x) v → Is K H (g x) v) : ∀ {l : List α} {vs : List V}, IsE K H (l.map f) vs → IsE K H (l.map g) vs
  | [], _, h1 => h1
  | x :: r, _, h1 => by
    obtain ⟨y, s, rfl, a, b⟩ := h1
    exact ⟨y, s, rfl, h x H y a, isE_map h b⟩
theorem isE_set : ∀ {ds : List Dd} {vs : List V} {i : Nat} {d : Dd} {w : V}, IsE K H ds vs → Is K H d w → IsE K H (ds.set i d) (vs.set i w)
  | [], _, i, d, w, h, _ => by rw [show _ = [] from h]; rfl
  | x :: r, _, 0, d, w, h, z => by
    obtain ⟨y, s, rfl, a, b⟩ := h
    exact ⟨w, s, rfl, z, b⟩
  | x :: r, _, i + 1, d, w, h, z => by
    obtain ⟨y, s, rfl, a, b⟩ := h
    exact ⟨y, s.set i w, rfl, a, isE_set (i := i) b z⟩
/-- a place of a list of any items -/
theorem er_place {i : Nat} (h : Er K tl σ H (.L ds)) (h2 : Er K ta σ H (.i (i : Int))) (hd : ds[i]? = some d) : Er K (tOp (rIxL K) tl ta) σ H d := er_op h h2 (ro_ixLd hd)
end
/-- a stock's pairs as lists -/
def stD (st : List (List Nat × List Nat)) : List Dd := st.map fun p => Dd.L [.s (S p.1), .s (S p.2)]
theorem stD_at {st : List (List Nat × List Nat)} {i : Nat} {p : List Nat × List Nat} (h : st[i]? = some p) : (stD st)[i]? = some (Dd.L [.s (S p.1), .s (S p.2)]) := by
  rw [stD, List.getElem?_map, h]
  rfl
theorem stD_of {st : List (List Nat × List Nat)} {i : Nat} {d : Dd} (h : (stD st)[i]? = some d) : ∃ p, st[i]? = some p ∧ d = Dd.L [.s (S p.1), .s (S p.2)] := by
  rw [stD, List.getElem?_map] at h
  cases q : st[i]? with
  | none => rw [q] at h; cases h
  | some p => rw [q] at h; exact ⟨p, rfl, (Option.some.inj h).symm⟩
theorem stD_len {st : List (List Nat × List Nat)} : (stD st).length = st.length := by simp [stD]
end Mi

set_option maxHeartbeats 2000000
namespace Mi
open PySem PySem.Spec PyProof.Rows L2 Evl
theorem cr_isiT_k {X : Cx} {K : PySem.W.Frag} (h : X.K = K := by rfl) : CallR X (.builtin "isinstance") (rIsiT K) := h ▸ call_isiT
section
variable {K : PySem.W.Frag} {σ : L2.St} {G A H : Hp} {te tl : TE} {d : Dd} {ds : List Dd} {x : V}
/-- isinstance(x, (T1, T2)) -/
theorem er_isiT {n1 n2 : String} {b : Bool} (t : Value) (h : Er K te σ H d) (ht : ∀ H1 v, Is K H1 d v → TyX K H1 v t) (hk : PySem.W.kitAny K t [.type n1, .type n2] = some b) : Er K (tCB (rIsiT K) (tCons te (tCons (tTup (tCons (tC (.ty n1)) (tCons (tC (.ty n2)) tNil))) tNil))) σ H (.b b) := fun H1 e Q q =>
  h H1 e _ fun v H2 e2 z => ⟨sz_of (by simp), fun p hp => ⟨v, p, [.ty n1, .ty n2], t, [.type n1, .type n2], b, rfl, upd_same, .cons (.ty n1) (.cons (.ty n2) .nil), ht _ _ (z.mono (Ex.new hp)), hk, q _ _ (e2.trans (Ex.new hp)) rfl⟩⟩
/-- what a variable holds is walked, a list or a tuple -/
def iSeqV (K : PySem.W.Frag) (i : Nat) : TI := fun σ H R => ∃ a, σ[i]? = some (some (.ref a)) ∧ (((∃ xs, SqL K H a xs) ∧ R (Itl K a) H) ∨ ((∃ xs, SqT K H a xs) ∧ R (Itt K a) H))
theorem pi_seqV {X : Cx} {tg l : Expr} {i : Nat} (hl : PE X l (tVar i)) (h : X.K = K := by rfl) : PI X tg l (iSeqV K i) := by
  subst h
  refine ⟨fun pins s σ H R I h => ?_⟩
  obtain ⟨a, e, h | h⟩ := h
  · exact (pi_list hl).run pins s σ H R I ⟨.ref a, e, a, rfl, h.1, h.2⟩
  · exact (pi_tup hl).run pins s σ H R I ⟨.ref a, e, a, rfl, h.1, h.2⟩
theorem if_seqL {i : Nat} (hx : σ[i]? = some (some x)) (h : Is K G (.L ds) x) : Itf K (iSeqV K i) σ G ds := fun G1 A e1 e2 R r => by
  have q := if_list (ef_var hx h) G1 A e1 e2 R r
  obtain ⟨y, hy, a, rfl, q1, q2⟩ := q
  exact ⟨a, hy, .inl ⟨q1, q2⟩⟩
theorem if_seqU {i : Nat} (hx : σ[i]? = some (some x)) (h : Is K G (.U ds) x) : Itf K (iSeqV K i) σ G ds := fun G1 A e1 e2 R r => by
  have q := if_tup (ef_var hx h) G1 A e1 e2 R r
  obtain ⟨y, hy, a, rfl, q1, q2⟩ := q
  exact ⟨a, hy, .inr ⟨q1, q2⟩⟩
theorem ty_Ld {v : V} (h : Is K H (.L ds) v) : TyX K H v (.type "list") := by
  obtain ⟨p, vs, rfl, hp, _⟩ := h
  exact ty_l ⟨p, rfl, hp⟩
theorem ty_Ud {v : V} (h : Is K H (.U ds) v) : TyX K H v (.type "tuple") := by
  obtain ⟨p, vs, rfl, hp, _⟩ := h
  exact ty_u ⟨p, rfl, hp⟩
end
/-! ### texts, whole numbers, lists and tuples of such, nested -/
mutual
def tupD : Dd → Dd
  | .L ds => .U (tupL ds)
  | .U ds => .U (tupL ds)
  | d => d
def tupL : List Dd → List Dd
  | [] => []
  | d :: r => tupD d :: tupL r
end
mutual
def depD : Dd → Nat
  | .L ds => depL ds + 1
  | .U ds => depL ds + 1
  | _ => 0
def depL : List Dd → Nat
  | [] => 0
  | d :: r => max (depD d) (depL r)
end
mutual
def okD : Dd → Prop
  | .v (.str _) => True
  | .v (.int _) => True
  | .L ds => okL ds ∧ ds.length ≤ 1000
  | .U ds => okL ds ∧ ds.length ≤ 1000
  | _ => False
def okL : List Dd → Prop
  | [] => True
  | d :: r => okD d ∧ okL r
end
theorem tupL_map : ∀ ds : List Dd, tupL ds = ds.map tupD
  | [] => rfl
  | d :: r => by rw [tupL, tupL_map r]; rfl
theorem okL_at : ∀ {ds : List Dd} {i : Nat} {d : Dd}, okL ds → ds[i]? = some d → okD d
  | [], _, _, _, h => by simp at h
  | x :: r, 0, d, h, e => Option.some.inj e ▸ h.1
  | x :: r, i + 1, d, h, e => okL_at (i := i) h.2 e
theorem depL_at : ∀ {ds : List Dd} {i : Nat} {d : Dd}, ds[i]? = some d → depD d ≤ depL ds
  | [], _, _, h => by simp at h
  | x :: r, 0, d, e => by
    rw [← Option.some.inj e]
    exact Nat.le_max_left _ _
  | x :: r, i + 1, d, e => Nat.le_trans (depL_at (i := i) e) (Nat.le_max_right _ _)
/-- a def of which nothing is asked -/
theorem At.none {P : Program} {w : World} {K : PySem.W.Frag} {mg : Str → Option Value} {base : Heap} {x : Str} {st : Stmt} {ps : List Str} {T : Type} {pre : T → Prop} {args : T → List Dd} {ret : T → Dd} (h : At K mg x st ps) (hn : ∀ a, ¬ pre a) : Has P w K mg base 0 x ps (spF K pre args ret) := by
  obtain ⟨f, fd, hm, F, b0, b1, b2⟩ := h.ex
  refine ⟨f, fd, hm, F.kp, ⟨fun vs H Q E hsp => ?_, fun A outer s H args us vs Q E hr he hb hv hsp => ?_⟩, b0, b1, b2⟩
  · obtain ⟨a, hp, _⟩ := hsp
    exact absurd hp (hn a)
  · obtain ⟨a, hp, _⟩ := hsp
    exact absurd hp (hn a)
end Mi

set_option maxHeartbeats 2000000
namespace Mi
open PySem PySem.Spec PyProof.Rows L2 Evl
/-! ### great numbers -/
def CDivWN (i j : Int) : Prop := j ≠ 0 ∧ j.natAbs.log2 < 9000
theorem op_fdivWN {X : Cx} : OpR X (binaryOp .FloorDiv) (rI CDivWN fun i j => .int (i.fdiv j)) := opI fun _ _ _ _ _ _ _ hc q => floordiv_int hc.1 q (.inl (PyProof.noPylong_of_log2 hc.2))
def Bd (n : Nat) (x : Int) : Prop := x.natAbs < 2 ^ n
theorem Bd.mono {n m : Nat} {x : Int} (h : Bd n x) (e : n ≤ m) : Bd m x := Nat.lt_of_lt_of_le h (Nat.pow_le_pow_right (by decide) e)
theorem Bd.mul {n m : Nat} {x y : Int} (h : Bd n x) (g : Bd m y) : Bd (n + m) (x * y) := wide_lt h g
theorem Bd.add {n : Nat} {x y : Int} (h : Bd n x) (g : Bd n y) : Bd (n + 1) (x + y) := by
  unfold Bd at *
  rw [Nat.pow_succ]
  omega
theorem Bd.sub {n : Nat} {x y : Int} (h : Bd n x) (g : Bd n y) : Bd (n + 1) (x - y) := by
  unfold Bd at *
  rw [Nat.pow_succ]
  omega
theorem Bd.neg {n : Nat} {x : Int} (h : Bd n x) : Bd n (-x) := by
  unfold Bd at *
  omega
theorem Bd.le {n : Nat} {x y : Int} (h : Bd n x) (g : y.natAbs ≤ x.natAbs) : Bd n y := Nat.lt_of_le_of_lt g h
section
variable {K : PySem.W.Frag} {σ : L2.St} {H H0 H' : Hp} {te tl ta tb tc : TE} {t u : TT} {tr : TA} {d d0 d1 d2 : Dd} {D : Ends} {tu tw tz : TS} {x y : V} {ds es : List Dd} {b : Bool}
theorem ro_mulW {i j : Int} {n m : Nat} (h : Bd n i) (g : Bd m j) (h0 : 0 < n) (h1 : 0 < m) (e : n + m ≤ 1000000) : Ro K (rI CMulW fun i j => .int (i * j)) (.i i) (.i j) (.i (i * j)) := ro_I (wide_mul h g h0 h1 e)
theorem ro_divWN {i j : Int} {n : Nat} (h0 : j ≠ 0) (h : Bd n j) (hn : 0 < n) (h9 : n ≤ 9000) : Ro K (rI CDivWN fun i j => .int (i.fdiv j)) (.i i) (.i j) (.i (i.fdiv j)) := ro_I ⟨h0, Nat.lt_of_lt_of_le (PySem.Flt.log2_lt_of hn h) h9⟩
theorem ro_divW {i j : Int} (h : 0 < j) (h2 : j < 4611686018427387904) : Ro K (rI CDivW fun i j => .int (i / j)) (.i i) (.i j) (.i (i / j)) := ro_I (wide_div (b := 62) h (by omega) (by decide) (by decide))
theorem er_un {r : V → Hp → VK → Prop} (h : Er K te σ H d1) (hr : ∀ x H1, Is K H1 d1 x → ∀ Q : VK, (∀ v H2, Ex H1 H2 → Is K H2 d v → Q v H2) → r x H1 Q) : Er K (tUn r te) σ H d := fun H1 e Q q =>
  h H1 e _ fun v H2 e2 z => hr v H2 z Q fun w H3 e3 z3 => q w H3 (e2.trans e3) z3
theorem er_neg {i : Int} (h : Er K te σ H (.i i)) : Er K (tUn (rU fun i => .int (-i)) te) σ H (.i (-i)) := er_un h fun x H1 z Q q => ⟨i, z, q _ H1 (Ex.refl H1) rfl⟩
theorem ro_1012 : Ro K (rI CPow fun i j => .int (i ^ j.toNat)) (.i 10) (.i 12) (.i 1000000000000) := ro_I (K := K) (C := CPow) (g := fun i j => .int (i ^ j.toNat)) (i := 10) (j := 12) ⟨by decide, by decide, by decide⟩
theorem ro_1015 : Ro K (rI CPow fun i j => .int (i ^ j.toNat)) (.i 10) (.i 15) (.i 1000000000000000) := ro_I (K := K) (C := CPow) (g := fun i j => .int (i ^ j.toNat)) (i := 10) (j := 15) ⟨by decide, by decide, by decide⟩
/-! ### is, for truth values; gcd; abs -/
theorem ro_notBl {a b : Bool} : Ro K rNotB (.b a) (.b b) (.b (!decide (a = b))) := by
  rintro _ _ H1 rfl rfl Q q
  exact ⟨a, b, rfl, rfl, q _ H1 (Ex.refl H1) rfl⟩
theorem ro_isBl {a b : Bool} : Ro K rIsB (.b a) (.b b) (.b (decide (a = b))) := by
  rintro _ _ H1 rfl rfl Q q
  exact ⟨a, b, rfl, rfl, q _ H1 (Ex.refl H1) rfl⟩
def gcdI (a b : Int) : Int := ((Nat.gcd a.natAbs b.natAbs : Nat) : Int)
theorem rc_gcd {a b : Int} : Rc K rGcd [.i a, .i b] (.i (gcdI a b)) := by
  rintro _ H1 (_ | ⟨rfl, _ | ⟨rfl, _ | _⟩⟩) Q q
  exact ⟨a, b, rfl, q _ H1 (Ex.refl H1) rfl⟩
def rAbs : List V → Hp → VK → Prop := fun xs H Q => ∃ i, xs = [.int i] ∧ Q (.int (if i < 0 then -i else i)) H
theorem cr_abs {X : Cx} : CallR X (.builtin "abs") rAbs := call_abs
theorem rc_abs {i : Int} : Rc K rAbs [.i i] (.i ((i.natAbs : Nat) : Int)) := by
  rintro _ H1 (_ | ⟨rfl, _ | _⟩) Q q
  exact ⟨i, rfl, q _ H1 (Ex.refl H1) (by
    show V.int _ = V.int _
    congr 1
    split <;> omega)⟩
/-! ### lists or tuples -/
inductive Sq : Dd → List Dd → Prop where
  | N (ds : List Dd) : Sq (.N ds) ds
  | U (ds : List Dd) : Sq (.U ds) ds
def rIxE (K : PySem.W.Frag) : R2 := fun x y H Q => rIxL K x y H Q ∨ rIxT K x y H Q
theorem ix_seq_k {X : Cx} (h : X.K = K := by rfl) : IxR X (rIxE K) := h ▸ IxR.or ix_list ix_tup
theorem ro_ixE {i : Nat} (h : Sq d0 ds) (hd : ds[i]? = some d) : Ro K (rIxE K) d0 (.i (i : Int)) d := by
  cases h with
  | N => exact fun v w H1 a b Q q => .inl (ro_ixNd hd v w H1 a b Q q)
  | U => exact fun v w H1 a b Q q => .inr (ro_ixUd hd v w H1 a b Q q)
theorem rc_lenE (h : Sq d0 ds) : Rc K (rLenS K) [d0] (.i (ds.length : Int)) := by
  cases h with
  | N => exact rc_lenNd
  | U => exact rc_lenUd
def gSeq (K : PySem.W.Frag) (n : Nat) (t : TGs) : TG := fun v σ H Q => gTup K n t v σ H Q ∨ gLst K n t v σ H Q
theorem pg_seq {X : Cx} {pos : Pos} {es : List Expr} {k : Nat} {t : TGs} {n : Nat} (hc : X.calm = true) (h : PGs X es t) (hK : X.K = K := by rfl)
    (hn : (assignEach es X.env).length = n := by rfl) (hst : (assignEach es X.env).findIdx? (·.1) = none := by rfl) : PG X (.Tuple es k pos) (gSeq K n t) := by
  subst hK
  refine ⟨fun pins s σ H v u Q I r hw => ?_⟩
  rcases hw with hw | hw
  · exact (pg_tup hc h hn hst).run pins s σ H v u Q I r hw
  · exact (pg_lst hc h hn hst).run pins s σ H v u Q I r hw
theorem g_pair {j1 j2 : Nat} {v : V} {Q : L2.St → Hp → Prop} (h : Sq d0 [d1, d2]) (hv : Is K H d0 v) (k : ∀ v1 v2, Is K H d1 v1 → Is K H d2 v2 → Q ((σ.set j1 (some v1)).set j2 (some v2)) H) : gSeq K 2 (gCons (gName j1) (gCons (gName j2) gNil)) v σ H Q := by
  cases h with
  | N =>
    obtain ⟨T, vs, rfl, hT, x, r, rfl, hx, y, r2, rfl, hy, hr⟩ := hv
    have er : r2 = [] := hr
    subst er
    exact .inr ⟨T, [x, y], rfl, sq_of hT, rfl, x, [y], rfl, y, [], rfl, rfl, k x y hx hy⟩
  | U =>
    obtain ⟨T, vs, rfl, hT, x, r, rfl, hx, y, r2, rfl, hy, hr⟩ := hv
    have er : r2 = [] := hr
    subst er
    exact .inl ⟨T, [x, y], rfl, hT, rfl, x, [y], rfl, y, [], rfl, rfl, k x y hx hy⟩
/-- (x, y) = a pair, both flat -/
theorem a_pair {i j : Nat} {xa xb : V} (h : Er K te σ H d0) (hs : Sq d0 [.v xa, .v xb]) (k : ∀ H1, Ex H H1 → tz D ((σ.set i (some xa)).set j (some xb)) H1) : tSeq (tAsg te (gSeq K 2 (gCons (gName i) (gCons (gName j) gNil)))) tz D σ H :=
  h H (Ex.refl H) _ fun v H1 e z => g_pair hs z fun v1 v2 h1 h2 => by
    have e1 : v1 = xa := h1
    have e2 : v2 = xb := h2
    subst e1
    subst e2
    exact k H1 e
/-- both of any kind -/
theorem a_pairD {i j : Nat} (h : Er K te σ H d0) (hs : Sq d0 [d1, d2]) (k : ∀ v1 v2 H1, Ex H H1 → Is K H1 d1 v1 → Is K H1 d2 v2 → tz D ((σ.set i (some v1)).set j (some v2)) H1) : tSeq (tAsg te (gSeq K 2 (gCons (gName i) (gCons (gName j) gNil)))) tz D σ H :=
  h H (Ex.refl H) _ fun v H1 e z => g_pair hs z fun v1 v2 h1 h2 => k v1 v2 H1 e h1 h2
/-! ### dicts that nobody reads -/
theorem er_d0 : Er K tDNewK σ H .D := fun H1 _ _ q p hp => q _ _ (Ex.new hp) ⟨p, [], rfl, upd_same⟩
theorem er_d2 {a b c e : Int} : Er K (tDisp [(tC (.int a), tC (.int b)), (tC (.int c), tC (.int e))]) σ H .D := fun H1 _ _ q p hp =>
  ⟨upd_same, [(.inl a, .int b), (.inl c, .int e)], rfl, by simp, q _ _ (Ex.mut (Ex.new hp) hp) ⟨p, _, rfl, upd_same⟩⟩
/-! ### a loop over a list of ours, its items of any kind -/
theorem b_forN {j : Nat} (h : Er K tl σ H (.N ds)) (Pv : Nat → L2.St → Hp → Prop) (h0 : ∀ H1, Ex H H1 → Pv 0 σ H1)
    (hs : ∀ H1, Ex H H1 → ∀ i d v σ' H', ds[i]? = some d → (∀ H2, Ex H1 H2 → Is K H2 d v) → Pv i σ' H' → Ex H1 H' → tu { D with nx := fun σ2 H2 => Pv (i + 1) σ2 H2 ∧ Ex H1 H2, ct := fun σ2 H2 => Pv (i + 1) σ2 H2 ∧ Ex H1 H2, bk := tz D } (σ'.set j (some v)) H')
    (hd : ∀ σ' H', Ex H H' → Pv ds.length σ' H' → tz D σ' H') : tSeq (tFor (iList K tl) (gName j) tu) tz D σ H :=
  h H (Ex.refl H) _ fun v H1 e1 ⟨p, vs, ep, hp, hE⟩ => by
    subst ep
    have z := isE_all.mp hE
    have len := z.len
    refine ⟨p, rfl, ⟨vs, sq_of hp⟩, ?_⟩
    refine for_list (D := { D with nx := tz D }) (xs := vs) (fun i σ' H' => Pv i σ' H' ∧ Ex H1 H') ⟨h0 _ e1, Ex.refl _⟩ (fun i σ' H' _ q => sq_of (q.2 p _ hp)) (fun i v σ' H' hv q => ?_) fun σ' H' q => hd σ' H' (e1.trans q.2) (by rw [len]; exact q.1)
    obtain ⟨d, hd', hi⟩ := isAll_at z hv
    exact hs _ e1 i d v σ' H' hd' (fun H2 e3 => hi.mono e3) q.1 q.2
theorem b_forR {ta : TA} {j : Nat} {n : Nat} (h : Era K ta σ H [.v (.int (n : Int))]) (hn : n ≤ 2000000) (Pv : Nat → L2.St → Hp → Prop) (h0 : ∀ H1, Ex H H1 → Pv 0 σ H1)
    (hs : ∀ (i : Nat) σ' H', i < n → Pv i σ' H' → tu { D with nx := Pv (i + 1), ct := Pv (i + 1), bk := tz D } (σ'.set j (some (.int (i : Int)))) H') (hd : ∀ σ' H', Pv n σ' H' → tz D σ' H') : tSeq (tFor (iRng1 ta) (gName j) tu) tz D σ H :=
  h H (Ex.refl H) _ fun vs H1 e z => by
    rcases z with _ | ⟨rfl, _ | _⟩
    exact ⟨(n : Int), rfl, by omega, by omega, for_range (D := { D with nx := tz D }) (lo := 0) (n := (n : Int).toNat) Pv (h0 H1 e) (fun i σ' H' hi p => by
      have e0 : (0 : Int) + (i : Int) = (i : Int) := Int.zero_add _
      show tu { D with nx := Pv (i + 1), ct := Pv (i + 1), bk := tz D } (σ'.set j (some (.int ((0 : Int) + (i : Int))))) H'
      rw [e0]
      exact hs i σ' H' (by omega) p) (by rw [Int.toNat_natCast]; exact hd)⟩
/-! ### deep == of pairs of whole numbers -/
theorem ro_eqUU {a b c e : Int} : Ro K (rEqD K) (.U [.i a, .i b]) (.U [.i c, .i e]) (.b (decide ([a, b] = [c, e]))) := fun x y H1 h1 h2 => ro_eqU (ns := [a, b]) (ms := [c, e]) x y H1 (Is.U2u (xs := vis [a, b]) h1) (Is.U2u (xs := vis [c, e]) h2)
theorem ro_eqNN {a b c e : Int} : Ro K (rEqD K) (.N [.i a, .i b]) (.N [.i c, .i e]) (.b (decide ([a, b] = [c, e]))) := fun x y H1 h1 h2 => ro_eqL (ns := [a, b]) (ms := [c, e]) x y H1 (Is.N2n (xs := vis [a, b]) h1).n2l (Is.N2n (xs := vis [c, e]) h2).n2l
theorem dp_pair {a b : Int} {H1 : Hp} {x : V} (h : Is K H1 (.N [.i a, .i b]) x) : Dp K H1 x (.list [.int a, .int b]) := by
  obtain ⟨p, rfl, hp⟩ := (Is.N2n (xs := vis [a, b]) h).n2l
  exact .lst hp (.cons (.int a) (.cons (.int b) .nil))
theorem dp_pairs {a b c e : Int} {H1 : Hp} {x : V} (h : Is K H1 (.N [.N [.i a, .i b], .N [.i c, .i e]]) x) : Dp K H1 x (.list [.list [.int a, .int b], .list [.int c, .int e]]) := by
  obtain ⟨p, vs, rfl, hp, x, r, rfl, hx, y, r2, rfl, hy, hr⟩ := h
  have er : r2 = [] := hr
  subst er
  exact .lst (sq_of hp) (.cons (dp_pair hx) (.cons (dp_pair hy) .nil))
theorem ro_eqPP {a b c e : Int} : Ro K (rEqD K) (.N [.N [.i a, .i b], .N [.i c, .i e]]) (.N [.N [.i a, .i b], .N [.i c, .i e]]) (.b true) := by
  intro x y H1 h1 h2 Q q
  refine ⟨_, _, dp_pairs h1, dp_pairs h2, ?_, ?_, q _ H1 (Ex.refl H1) ?_⟩
  · simp [SeqAt.shaped, PyData.canLay0, PyData.depth, PyData.canLayAll0, PyData.depthAll]
  · simp [SeqAt.shaped, PyData.canLay0, PyData.depth, PyData.canLayAll0, PyData.depthAll]
  · show V.bl _ = V.bl true
    simp [PyData.eqv, PyData.eqvAll]
end
/-! ### kinds of values -/
def tyN : Dd → String
  | .v (.int _) => "int"
  | .v (.bl _) => "bool"
  | .v .non => "NoneType"
  | .v (.str _) => "str"
  | .N _ => "list"
  | .U _ => "tuple"
  | .D => "dict"
  | _ => "?"
theorem ty_of {K : PySem.W.Frag} {H : Hp} : ∀ {d : Dd} {v : V}, tyN d ≠ "?" → Is K H d v → TyX K H v (.type (tyN d))
  | .v (.int i), _, _, h => by rw [show _ = V.int i from h]; exact .base (.int i)
  | .v (.bl b), _, _, h => by rw [show _ = V.bl b from h]; exact .base (.bl b)
  | .v .non, _, _, h => by rw [show _ = V.non from h]; exact .base .non
  | .v (.str x), _, _, h => by rw [show _ = V.str x from h]; exact .base (.str x)
  | .N ds, _, _, h => ty_Ld h.N2L
  | .U ds, _, _, h => ty_Ud h
  | .D, _, _, h => by obtain ⟨p, kvs, rfl, e⟩ := h; exact .base (.dK e)
  | .v (.byt _), _, n, _ => absurd rfl n
  | .v (.flt _), _, n, _ => absurd rfl n
  | .v (.ref _), _, n, _ => absurd rfl n
  | .v (.ty _), _, n, _ => absurd rfl n
  | .P _, _, n, _ => absurd rfl n
  | .l _, _, n, _ => absurd rfl n
  | .n _, _, n, _ => absurd rfl n
  | .u _, _, n, _ => absurd rfl n
  | .L _, _, n, _ => absurd rfl n
theorem tyN_cases : ∀ {d : Dd}, tyN d ≠ "?" → tyN d = "int" ∨ tyN d = "bool" ∨ tyN d = "NoneType" ∨ tyN d = "str" ∨ tyN d = "list" ∨ tyN d = "tuple" ∨ tyN d = "dict"
  | .v (.int i), _ => .inl rfl
  | .v (.bl b), _ => .inr (.inl rfl)
  | .v .non, _ => .inr (.inr (.inl rfl))
  | .v (.str x), _ => .inr (.inr (.inr (.inl rfl)))
  | .N ds, _ => .inr (.inr (.inr (.inr (.inl rfl))))
  | .U ds, _ => .inr (.inr (.inr (.inr (.inr (.inl rfl)))))
  | .D, _ => .inr (.inr (.inr (.inr (.inr (.inr rfl)))))
  | .v (.byt _), n => absurd rfl n
  | .v (.flt _), n => absurd rfl n
  | .v (.ref _), n => absurd rfl n
  | .v (.ty _), n => absurd rfl n
  | .P _, n => absurd rfl n
  | .l _, n => absurd rfl n
  | .n _, n => absurd rfl n
  | .u _, n => absurd rfl n
  | .L _, n => absurd rfl n
theorem kit2' {K : PySem.W.Frag} {n m1 m2 : String} {b1 b2 : Bool} (h1 : kitB n m1 = some b1) (h2 : kitB n m2 = some b2) : PySem.W.kitAny K (.type n) [.type m1, .type m2] = some (b1 || b2) := by
  have e1 : PySem.W.kitOne K (.type n) (.type m1) = some b1 := kit_ty h1
  have e2 : PySem.W.kitOne K (.type n) (.type m2) = some b2 := kit_ty h2
  unfold PySem.W.kitAny
  rw [e1]
  cases b1 with
  | true => rfl
  | false =>
    show PySem.W.kitAny K (.type n) [.type m2] = some b2
    unfold PySem.W.kitAny
    rw [e2]
    cases b2 with
    | true => rfl
    | false => rfl
theorem kit_int {d : Dd} (h : tyN d ≠ "?") : kitB (tyN d) "int" = some (tyN d == "int" || tyN d == "bool") := by
  rcases tyN_cases h with e | e | e | e | e | e | e <;> rw [e] <;> decide +kernel
theorem kit_bool {d : Dd} (h : tyN d ≠ "?") : kitB (tyN d) "bool" = some (tyN d == "bool") := by
  rcases tyN_cases h with e | e | e | e | e | e | e <;> rw [e] <;> decide +kernel
theorem kit_list {d : Dd} (h : tyN d ≠ "?") : kitB (tyN d) "list" = some (tyN d == "list") := by
  rcases tyN_cases h with e | e | e | e | e | e | e <;> rw [e] <;> decide +kernel
theorem kit_tuple {d : Dd} (h : tyN d ≠ "?") : kitB (tyN d) "tuple" = some (tyN d == "tuple") := by
  rcases tyN_cases h with e | e | e | e | e | e | e <;> rw [e] <;> decide +kernel
section
variable {K : PySem.W.Frag} {d : Dd}
theorem rc_isiD {n : String} {b : Bool} (h : tyN d ≠ "?") (hk : kitB (tyN d) n = some b) : Rc K (rIsi K) [d, .v (.ty n)] (.b b) := rc_isi (.type (tyN d)) (fun _ _ z => ty_of h z) (kit_ty hk)
end
end Mi

set_option maxHeartbeats 2000000
namespace Mi
open PySem PySem.Spec PyProof.Rows L2 Evl
/-! ### iter(t), t a tuple -/
abbrev itTup (t : Addr) (i : Nat) : Obj := { cls := .type "tuple_iterator", data := .fields #[.ref t, .int i 0] }
def TupO (t it : Addr) (i : Nat) : HO := .ext fun h => h.get? it = some (itTup t i)
theorem tupO_ok {P : Program} {w : World} {H : Hp} {h : Heap} {t it : Addr} {i : Nat} (e : h.get? it = some (itTup t i)) : ObjOk P w H h it (TupO t it i) := ⟨e, ⟨_, e⟩, fun h1 h2 q k => k _ q⟩
theorem call_iter_tup {prog : Program} {w : World} {A : Around} {E : Value → Shared → Prop} {s : Shared} {t : Addr} {items : Array Value} {Q : Value → Shared → Prop} (ht : s.heap.IsTuple t items) (h : Q (.ref s.heap.objs.size) { s with heap := s.heap.push (itTup t 0) }) : wpAny (model prog w) A (call (.builtin "iter") [.ref t]) Q E s := by
  refine Calls.call_function_entry (by decide +kernel) (by decide +kernel) PySem.W.kdk_entry_iter (PySem.W.kdk_args_iter _) ?_
  unfold Builtin.«iter»
  refine wpAny_bind (m := someArgs "iter" 1 2 _) (wpAny_of_eq (a := [Value.ref t]) (by first | rfl | kernel_rfl!) ?_)
  show wpAny _ _ (pyIter (.ref t) >>= _) _ _ _
  refine wpAny_bind (wpAny_pyIter_tuple ht ?_)
  exact wpAny_pure ⟨_, rfl, h⟩
def rIterT (K : PySem.W.Frag) (n : Nat) : List V → Hp → VK → Prop := fun xs H Q => ∃ (l : Addr) (zs : List V), xs = [.ref l] ∧ SqT K H l zs ∧ ∀ it, H it = Option.none → n ≤ it → Q (.ref it) (upd H it (TupO l it 0))
theorem cr_iterT {X : Cx} {K : PySem.W.Frag} {n : Nat} (hK : X.K = K := by rfl) (hn : X.s_0.heap.objs.size = n := by rfl) : CallR X (.builtin "iter") (rIterT K n) := by
  subst hK hn
  intro pins s σ H xs us Q I r h
  obtain ⟨l, zs, rfl, hq, q⟩ := h
  obtain ⟨u, rfl, ru⟩ := vals1 r
  cases ru
  obtain ⟨its, rv, pl, hz⟩ := I.tuple hq
  refine call_iter_tup (show s.heap.IsTuple l its.toArray from pl) ?_
  exact ⟨.ref s.heap.objs.size, _, I.laid (t' := s.toks) (fun b u e => Heap.get?_push_of_some _ e) (Nat.le_refl _) (tupO_ok (Heap.get?_push_size _ rfl)), rfl, q _ (I.hok.fresh (Nat.le_refl _)) I.sz⟩
/-! ### __iter__ that answers iter(self.f), f a tuple: the iterator is young -/
section
variable {P : Program} {w : World} {K : PySem.W.Frag} {mg : Str → Option Value} {base : Heap} {k : Nat} {f : Addr} {fd : FuncData} {N : List Str} {st : Stmt} {fl : Str} {x0 qual : Str}
/-- what is asked of such a def -/
structure IterFn (P : Program) (w : World) (K : PySem.W.Frag) (mg : Str → Option Value) (base : Heap) (k : Nat) (f : Addr) (C : Addr) (fl : Str) : Prop where
  it : PySem.W.findIn K (.ref C) "__iter__" = some (some (.ref f))
  fn : PySem.W.isFn K (.ref f) = true
  run : ∀ (A : Around) (outer : List Env) (s : Shared) (H : Hp) (x dx : Addr) (fs : List (Str × V)) (a : Addr) (zs : List V), Room k A → Env0 P w K mg base A outer s H → H x = some (.ins C dx fs) → fs.lookup fl = some (.ref a) → SqT K H a zs →
    codeAny (model P w) A (.call (.ref f) ⟨[.ref x], []⟩) (CR CX0 outer P w H s (fun v H' => ∃ it, v = .ref it ∧ s.heap.objs.size ≤ it ∧ H it = none ∧ H' = upd H it (TupO a it 0)) E0) s
theorem iter_mk {C : Addr} (F : Fun K x0 qual st f fd) (S : FnScope N ["self"] (defScope st)) (hi : PySem.W.findIn K (.ref C) "__iter__" = some (some (.ref f))) (hfn : PySem.W.isFn K (.ref f) = true) (cl : Cls K C) (na : NoAttr K C fl) (hN : N = (["self"] : List Str))
    (hb : Binds K fd ["self"] [])
    (hbody : ∀ (cdv : Value) (A : Around) (outer : List Env) (s : Shared) (H : Hp), Room k (A.deeper (envOfC qual (defScope st) s.heap.objs.size f cdv)) →
      PSs (cxOf CX0 P w K mg base N qual (defScope st) f cdv A outer s H E0).nox (defBody st) (tRet (tCB (rIterT K s.heap.objs.size) (tCons (tFld K (tVar 0) fl) tNil)))) : IterFn P w K mg base (k + 1) f C fl := by
  obtain ⟨oc, od, kV, doc, pm, an, cdv, ct, osl, rfl, lk, hcd⟩ := F.ex
  refine ⟨hi, hfn, fun A outer s H x dx fs a zs hr e0 hx hf hz => ?_⟩
  have KX : K.In s.heap := e0.mod.kin.keeps fun b o e => (e0.bs b o e).1
  have lim : s.heap.NoLimit := e0.mod.nolimit.keeps fun b o e => (e0.bs b o e).1
  have hkind : ∀ y ∈ (["self"] : List Str).zip [Value.ref x], (defScope st).names.lookup y.1 = some .local ∨ ((defScope st).names.lookup y.1 = some .cell ∧ ((cellsFrom (s.heap.objs.size + 1) (defScope st).names []).lookup y.1).isSome = true) := fun ⟨n, v⟩ hy => by
    rcases S.par n (List.of_mem_zip hy).1 with q | q
    · exact .inl q
    · exact .inr ⟨q, PySem.W.cellsFrom_some _ _ _ (.inl q)⟩
  have bd := hb s [.ref x] KX rfl
  rw [List.append_nil] at bd
  refine codeAny_call_function hr.depth (KX _ _ lk) rfl S.co S.gen rfl (PySem.W.codeRec_of KX hcd) (bd _ _ _ _ ?_)
  refine wpAny_newFunctionEnv_cells S.kind hkind fun env he s1 x1 => ?_
  subst he
  refine ⟨lim.keeps x1.toInCall.keep, codeAny_func ?_⟩
  have ht := (hbody cdv A outer s H (hr.deeper _)).nox
  have I : Inv (cxOf CX0 P w K mg base N qual (defScope st) f cdv A outer s H E0) [] (start N [.ref x]) H s1 := inv_start S hr.hd e0 rfl (.cons rfl .nil) x1
  have hq : tRet (tCB (rIterT K s.heap.objs.size) (tCons (tFld K (tVar 0) fl) tNil)) { nx := fun _ H' => False, rt := fun v H' => ∃ it, v = .ref it ∧ s.heap.objs.size ≤ it ∧ H it = none ∧ H' = upd H it (TupO a it 0) } (start N [.ref x]) H := by
    subst hN
    exact ⟨.ref x, rfl, x, C, dx, fs, .ref a, rfl, hx, cl, na, hf, a, zs, rfl, hz, fun it hn hle => ⟨it, rfl, hle, hn, rfl⟩⟩
  refine wpAny_mono (ht.run [] s1 (start N [.ref x]) H _ I hq) (fun fl' s' hs => ?_) fun e s' hs => hs
  cases fl' with
  | ret u =>
    obtain ⟨v, σ', H', J, rv, q⟩ := hs
    exact ⟨v, H', J.os, J.bare, J.base, J.hok, rv, q⟩
  | next =>
    obtain ⟨σ', H', J, q⟩ := hs
    exact False.elim q
  | brk =>
    obtain ⟨_, _, _, q⟩ := hs
    exact False.elim q
  | cont =>
    obtain ⟨_, _, _, q⟩ := hs
    exact False.elim q
end
def iOwn (K : PySem.W.Frag) (C : Addr) (fl : Str) (te : TE) : TI := fun σ H R => te σ H fun v H1 => ∃ x dx fs a zs, v = .ref x ∧ H1 x = some (.ins C dx fs) ∧ fs.lookup fl = some (.ref a) ∧ SqT K H1 a zs ∧ R (Itt K a) H1
theorem pi_own {X : Cx} {K : PySem.W.Frag} {tg l : Expr} {tl : TE} {k : Nat} {f C : Addr} {fl : Str} (F : IterFn X.prog X.w X.K X.mg X.base k f C fl) (hr : Room k X.A) (hl : PE X l tl) (hK : X.K = K := by rfl) : PI X tg l (iOwn K C fl tl) := by
  subst hK
  refine ⟨fun pins s σ H R I h => ?_⟩
  refine thn (hl.run pins s σ H _ I h) fun v s1 ⟨y, H1, I1, r1, q1⟩ => ?_
  obtain ⟨x, dx, fs, a, zs, e, hx, hf, hz, q⟩ := q1
  subst e
  cases r1
  obtain ⟨mA, J, _⟩ := ins_get I1.hok hx
  obtain ⟨od, J, _⟩ := J.look
  obtain ⟨m, hF⟩ := I1.fr
  refine PySem.W.owit_iter hF I1.ok.mod.kin J F.it F.fn ?_
  refine wpAny_call (codeAny_mono (F.run X.A X.stack s1 H1 x dx fs a zs hr I1.env0 hx hf hz) fun r s' hq => ?_)
  cases r with
  | error e => exact pass0 pins σ H1 s1 e s' I1 hq
  | ok fl' =>
    cases fl' with
    | ret u =>
      obtain ⟨v, H', I2, rv, it, rfl, hle, hn, rfl⟩ := I1.after hq
      cases rv
      have hg : s'.heap.get? it = some (itTup a 0) := (I2.hok it _ upd_same).1
      have I3 : Inv X pins σ H1 s' := by
        have := ItX.inv_drop I2 (show upd H1 it (TupO a it 0) it = some (.ext _) from upd_same)
        rwa [ItX.dropH_upd hn] at this
      have ti : s'.heap.IsTupleIter it a 0 := ⟨_, hg, rfl, rfl⟩
      refine wpAny_specialOf ti.typeIs PySem.F.slot_tuple_iterator_next.lookup ?_
      refine ⟨it, [it], _, _, H1, rfl, I3, turn_tuple a _, ti, fun b hb => ?_, q⟩
      have e : b = it := by simpa using hb
      subst e
      exact I1.fpOk hle hn
    | next => exact False.elim hq
    | brk => exact False.elim hq
    | cont => exact False.elim hq
end Mi

set_option maxHeartbeats 2000000
namespace Mi
open PySem PySem.Spec PyProof.Rows L2 Evl
open Sem (wp)
open AutoSeq1 (wpAny_loadPart')
/-! ### enumerate(t), t a tuple -/
theorem meets_enumT (l : Addr) (items : Array Value) (n : Nat) (dct : Option Addr) (sl : Array (Option Value)) :
    Meets (Builtin.«enumerate.__new__» ⟨[.type "enumerate", .ref l], []⟩) (fun _ R s => s.heap.get? l = some { cls := .type "tuple", dict := dct, data := .seq items n, slots := sl } ∧
      R (.ok (.ret (.ref (s.heap.push (itTup l 0)).objs.size)))
        { s with heap := (s.heap.push (itTup l 0)).push { cls := .type "enumerate", data := .fields #[.none, .bool false, .ref s.heap.objs.size, rawInt 0, .none, .none] } }) :=
  .of_wp fun prog w A R s h => by
    obtain ⟨hp, g, d, tk, os⟩ := s; obtain ⟨hl, h⟩ := h
    have hsub := sub_enumerate
    have hL : Heap.IsTuple (Shared.heap ⟨hp, g, d, tk, os⟩) l items := ⟨_, hl, rfl, n, rfl⟩
    wp_walk using wpAny_loadPart' hl
    refine wpAny_stack_any fun st => wpAny_pure ?_
    split
    · rename_i c _ _ _ _ _
      cases (c == Value.type "enumerate")
      · wp_walk using wpAny_loadPart' hl, wpAny_pyIter_tuple hL
        exact ⟨_, rfl, h⟩
      · wp_walk using wpAny_loadPart' hl, wpAny_pyIter_tuple hL
        exact ⟨_, rfl, h⟩
    · wp_walk using wpAny_loadPart' hl, wpAny_pyIter_tuple hL
      exact ⟨_, rfl, h⟩
theorem call_enumT {prog : Program} {w : World} {A : Around} {E : Value → Shared → Prop} {s : Shared} {l : Addr} {items : Array Value} {Q : Value → Shared → Prop} (hL : s.heap.IsTuple l items)
    (h : ∀ h', IsEnum h' (s.heap.objs.size + 1) s.heap.objs.size 0 .none → h'.IsTupleIter s.heap.objs.size l 0 → h'.objs.size = s.heap.objs.size + 2 →
      (∀ b o, s.heap.get? b = some o → h'.get? b = some o) → Q (.ref (s.heap.objs.size + 1)) { s with heap := h' }) :
    wpAny (model prog w) A (call (.type "enumerate") [.ref l]) Q E s := by
  obtain ⟨⟨c, dct, dt, sl⟩, hl, hc, n, hd⟩ := hL
  replace hc : c = .type "tuple" := hc
  replace hd : dt = .seq items n := hd
  subst hc hd
  refine callType_new PySem.F.called_enumerate (by decide) (PySem.F.typeCall_enumerate_1 _) (PySem.F.newCall_enumerate_1 _) (fun obj => PySem.F.args_object_init_2 obj _) PySem.F.entry_enumerate_new
    (meets_enumT l items n dct sl) ⟨hl, ?_⟩
  have hz : (s.heap.push (itTup l 0)).objs.size = s.heap.objs.size + 1 := Heap.size_push ..
  show _ ∧ _
  rw [hz]
  have he : IsEnum ((s.heap.push (itTup l 0)).push
      { cls := .type "enumerate", data := .fields #[.none, .bool false, .ref s.heap.objs.size, rawInt 0, .none, .none] }) (s.heap.objs.size + 1) s.heap.objs.size 0 .none := by
    have := Heap.get?_push_size (s.heap.push (itTup l 0))
      (o := { cls := .type "enumerate", data := .fields #[.none, .bool false, .ref s.heap.objs.size, rawInt 0, .none, .none] }) rfl
    rw [hz] at this; exact this
  refine ⟨⟨_, he, rfl⟩, h _ he ⟨_, Heap.get?_push_of_some _ (Heap.get?_push_size _ rfl), rfl, rfl⟩ (by rw [Heap.size_push, hz]) fun b o x => Heap.get?_push_of_some _ (Heap.get?_push_of_some _ x)⟩
def IteT (K : PySem.W.Frag) (a : Addr) : It :=
  ⟨fun i H => ∃ (xs : List V) (x : V), SqT K H a xs ∧ xs[i]? = some x, fun i H v H' => ∃ T x, v = .ref T ∧ H T = none ∧ H' = upd H T (.tup [.int (i : Nat), x]) ∧ ∀ xs, SqT K H a xs → xs[i]? = some x, fun i H => ∃ xs : List V, SqT K H a xs ∧ xs.length ≤ i⟩
theorem turn_enumT {P : Program} {w : World} {K : PySem.W.Frag} {elts : List Expr} {kk : Nat} {tpos : Pos} (a e it : Addr) :
    Turn P w K (.Tuple elts kk tpos) (IteT K a) [e, it] e (fun i h => (∃ old, IsEnum h e it ((i : Nat) : Int) old) ∧ h.IsTupleIter it a i ∧ e ≠ it ∧ a ≠ it ∧ e ≠ a) where
  mem := by simp
  obj := fun i h st b hb => by
    obtain ⟨⟨old, he⟩, ⟨o, ho, hc, hd⟩, _⟩ := st
    have e' : b = e ∨ b = it := by simpa using hb
    rcases e' with z | z
    · rw [z]; exact ⟨_, he, fun v q => nomatch q⟩
    · rw [z]; exact ⟨o, ho, fun v q => by rw [hd] at q; cases q⟩
  keep := fun i h h' st k => let ⟨⟨old, he⟩, hi, hne⟩ := st; ⟨⟨old, k e (by simp) _ he⟩, hi.at fun o q => k it (by simp) o q, hne⟩
  item := by
    intro X hP hw hK hc i pins s σ H E I hf st hg
    subst hP hw hK
    obtain ⟨⟨old, he⟩, hit, hne, hai, hea⟩ := st
    obtain ⟨xs, x, hq, hx⟩ := hg
    obtain ⟨its, rv, p, hz⟩ := I.tuple hq
    obtain ⟨u, hu, ru⟩ := rv.get hx
    have hel : e < s.heap.objs.size := Heap.lt_size he
    have hil : it < s.heap.objs.size := by obtain ⟨_, q, _⟩ := hit; exact Heap.lt_size q
    have hlt : i < its.toArray.size := by
      have := (List.getElem?_eq_some_iff.mp hu).1
      simpa using this
    refine wpAny_pyNext_enum_itemD (Draws.tuple (A := X.A.in1) (I.ok.hd hc) it a hai its.toArray) he ⟨hit, show s.heap.IsTuple a its.toArray from p⟩ hlt hne (by simp [hne, hea]) fun v h' tk hP ho st' hT hsz hk => ?_
    have ev : v = u := by
      have h1 : its.toArray[i]? = some v := hP
      have h2 : its.toArray[i]? = some u := by simpa using hu
      rw [h1] at h2
      exact Option.some.inj h2
    subst ev
    obtain ⟨hit', _⟩ := st'
    refine ⟨_, rfl, wpAny_letOwnedTupleGo_enum (s := { s with heap := h', toks := tk + 1 }) ho fun h'' he' sb => ?_⟩
    have hT2 : h''.get? s.heap.objs.size = some { cls := .type "tuple", data := .seq #[.int i tk, v] } := (sb.2 _ (Nat.ne_of_gt hel)).trans hT
    have new : ObjOk X.prog X.w (upd H s.heap.objs.size (.tup [.int (i : Nat), x])) h'' s.heap.objs.size (.tup [.int (i : Nat), x]) :=
      ⟨by show 2 ≤ sizeLine; decide, [.int i tk, v], .cons ⟨_, rfl⟩ (.cons ru .nil), ⟨_, hT2, rfl, _, rfl⟩⟩
    have I1 : Inv X pins σ (upd H s.heap.objs.size (.tup [.int (i : Nat), x])) { s with heap := h'', toks := tk + 1 } :=
      I.turnedNew (ch := [e, it]) (fun b ob hb q => (sb.2 b (fun z => hb (by simp [z]))).trans (hk b ob (fun z => hb (by simp [z])) (fun z => hb (by simp [z])) q)) hf (Nat.le_refl _) new
    refine ⟨.ref s.heap.objs.size, _, I1, rfl, ⟨_, x, rfl, I.hok.fresh (Nat.le_refl _), rfl, fun ys hy => by rw [I.tuple_inj hy hq]; exact hx⟩, ⟨⟨v, ?_⟩, hit'.at fun o q => (sb.2 it (Ne.symm hne)).trans q, hne, hai, hea⟩, fun b hb => ?_⟩
    · have e1 : ((i + 1 : Nat) : Int) = (i : Int) + 1 := by omega
      rw [e1]; exact he'
    · have hb' : b < s.heap.objs.size := by
        have e' : b = e ∨ b = it := by simpa using hb
        rcases e' with z | z
        · rw [z]; exact hel
        · rw [z]; exact hil
      rw [upd_ne (Nat.ne_of_lt hb')]
      exact (hf b hb).1
  done := by
    intro X hP hw hK hc i pins s σ H E I hf st hg
    subst hP hw hK
    obtain ⟨⟨old, he⟩, hit, hne, hai, hea⟩ := st
    obtain ⟨xs, hq, hx⟩ := hg
    obtain ⟨its, rv, p, hz⟩ := I.tuple hq
    obtain ⟨f0, f1, f2, f3, f4, f5⟩ := hf it (by simp)
    have hl := rv.length
    have hp : s.heap.IsTuple a its.toArray := p
    have D : Draws X.prog X.w X.A.in1 it [it, a] i (fun _ _ => False) (fun j h => j = i ∧ h.IsTupleIter it a i ∧ h.IsTuple a its.toArray) :=
      { live := fun _ _ st => let ⟨_, ⟨o, ho, _⟩, _⟩ := st; ⟨o, ho⟩
        frame := fun _ _ _ st hk => ⟨st.1, st.2.1.at fun o e => hk it (by simp) o e, st.2.2.at fun o e => hk a (by simp) o e⟩
        item := fun j s Q E hj st _ => absurd st.1 (Nat.ne_of_lt hj)
        done := fun s Q E st hE => wpAny_nextOf_tuple_end (I.ok.hd hc) st.2.1 st.2.2 (by simp; omega) hE }
    exact wpAny_pyNext_enum_endD D he ⟨rfl, hit, hp⟩ fun h' eb => ⟨rfl, I.turned (t' := s.toks) (fun b o hb q => eb b o hb q) f0 f1 f3 f4 f5⟩
  self := fun A i s Q E st h => let ⟨⟨_, he⟩, _⟩ := st; wpAny_pyIter_enum he h
def iEnumT (K : PySem.W.Frag) (ta : TA) : TI := fun σ H R => ta σ H fun vs H1 => ∃ a xs, vs = [.ref a] ∧ SqT K H1 a xs ∧ R (IteT K a) H1
theorem pi_enumT {X : Cx} {K : PySem.W.Frag} {e : Expr} {ta : TA} {p pos tpos : Pos} {elts : List Expr} {kk : Nat} (hg : Gl X "enumerate") (hm : X.mg "enumerate" = none) (ha : PA X [e] ta) (hK : X.K = K := by rfl) (hs : starEach [e] X.env = [(false, eval e X.env)] := by rfl) :
    PI X (.Tuple elts kk tpos) (.Call (.Name "enumerate" p) [e] [] pos) (iEnumT K ta) := by
  subst hK
  refine ⟨fun pins s σ H R I h => ?_⟩
  refine Call_ (ld_blt I hg hm boot_enumerate (PyProof.Rows.callWith_type1 (thn (ha.run pos pins s σ H _ I h) fun us s1 ⟨vs, H1, I1, r1, q1⟩ => ?_) hs rfl))
  obtain ⟨a, xs, ex, hq, q⟩ := q1
  subst ex
  cases r1 with
  | cons r rr =>
    cases rr
    cases r
    obtain ⟨its, rv, p', hz⟩ := I1.tuple hq
    have hal : a < s1.heap.objs.size := by
      obtain ⟨o, e, _⟩ := p'
      exact Heap.lt_size e
    refine call_enumT (show s1.heap.IsTuple a its.toArray from p') fun h' he hit hsz hk => wpAny_pyIter_enum he ?_
    have I2 : Inv X pins σ H1 { s1 with heap := h' } := I1.kept (t' := s1.toks) hk
    refine ⟨s1.heap.objs.size + 1, [s1.heap.objs.size + 1, s1.heap.objs.size], _, _, H1, rfl, I2, turn_enumT a (s1.heap.objs.size + 1) s1.heap.objs.size, ⟨⟨.none, he⟩, hit, Nat.succ_ne_self _, Nat.ne_of_lt hal, Nat.ne_of_gt (Nat.lt_succ_of_lt hal)⟩, fun b hb => ?_, q⟩
    have e' : b = s1.heap.objs.size + 1 ∨ b = s1.heap.objs.size := by simpa using hb
    have hle : s1.heap.objs.size ≤ b := by
      rcases e' with z | z
      · rw [z]; exact Nat.le_add_right _ _
      · rw [z]; exact Nat.le_refl _
    exact I1.fpOk hle (I1.hok.fresh hle)
section
variable {K : PySem.W.Frag} {σ : L2.St} {G A : Hp} {te tl : TE} {d d1 d2 d3 : Dd} {d0 : V} {ds : List Dd} {v : V}
theorem if_enumT (h : Ef K tl σ G (.U ds)) : Itf K (iEnumT K (tCons tl tNil)) σ G (ds.zipIdx.map fun p => Dd.U [.i (p.2 : Int), p.1]) := fun G1 A e1 e2 R r =>
  h G1 A e1 e2 _ fun v G2 A2 s ⟨p, vs, ep, hp, hE⟩ => by
    subst ep
    refine ⟨p, vs, rfl, ex_t s.v hp, r _ G2 A2 s fun i G' A' e3 e4 => ⟨fun d hd => ?_, fun hi => ?_⟩⟩
    · rw [List.getElem?_map, List.getElem?_zipIdx] at hd
      cases hx : ds[i]? with
      | none => rw [hx] at hd; cases hd
      | some x =>
        rw [hx] at hd
        have ed : Dd.U [.i (((0 + i : Nat)) : Int), x] = d := Option.some.inj hd
        rw [Nat.zero_add] at ed
        obtain ⟨y, hy, z⟩ := isE_at hE hx
        refine ⟨⟨vs, y, ex_t (e3.trans e4) hp, hy⟩, fun w A'' hyl => ?_⟩
        obtain ⟨T, x', rfl, hT, rfl, hall⟩ := hyl
        have ev := (hall vs (ex_t (e3.trans e4) hp)).symm.trans hy
        rw [Option.some.inj ev, ← ed]
        refine ⟨_, .new e4 hT, T, [.int (i : Int), y], rfl, st_of upd_same, .int (i : Int), [y], rfl, rfl, y, [], rfl, (z.mono e3).mono (Ex.new (ex_out e4 hT)), rfl⟩
    · rw [List.length_map, List.length_zipIdx] at hi
      exact ⟨vs, ex_t (e3.trans e4) hp, by rw [← isE_len hE]; omega⟩
/-- i, (a, b) -/
theorem g_nest {j0 j1 j2 : Nat} {Q : L2.St → Hp → Prop} (hA : Ex G A) (h : Is K G (.U [.v d0, .U [d1, d2]]) v) (k : ∀ v1 v2, Is K G d1 v1 → Is K G d2 v2 → Q (((σ.set j0 (some d0)).set j1 (some v1)).set j2 (some v2)) A) :
    gTup K 2 (gCons (gName j0) (gCons (gTup K 2 (gCons (gName j1) (gCons (gName j2) gNil))) gNil)) v σ A Q := by
  obtain ⟨T, vs, rfl, hT, x, r, rfl, hx, y, r2, rfl, hy, hr⟩ := h
  have er : r2 = [] := hr
  subst er
  obtain rfl : x = d0 := hx
  exact ⟨T, [x, y], rfl, ex_t hA hT, rfl, x, [y], rfl, y, [], rfl, g_two hA hy fun v1 v2 h1 h2 => ⟨rfl, k v1 v2 h1 h2⟩⟩
/-- a walk over an object whose __iter__ answers iter(self.f) -/
theorem if_own {C : Addr} {fl : Str} (h : ∀ G1 A, Ex G G1 → Ex G1 A → ∀ Q : VK, (∀ x dx fs a, A x = some (.ins C dx fs) → fs.lookup fl = some (.ref a) → Is K G1 (.U ds) (.ref a) → Q (.ref x) A) → te σ A Q) : Itf K (iOwn K C fl te) σ G ds := fun G1 A e1 e2 R r =>
  h G1 A e1 e2 _ fun x dx fs a hx hf ⟨p, vs, ep, hp, hE⟩ => by
    cases ep
    refine ⟨x, dx, fs, a, vs, rfl, hx, hf, ex_t e2 hp, r _ G1 A (.refl e2) fun i G' A' e3 e4 => ⟨fun d hd => ?_, fun hi => ⟨vs, ex_t (e3.trans e4) hp, by rw [← isE_len hE]; omega⟩⟩⟩
    obtain ⟨y, hy, z⟩ := isE_at hE hd
    refine ⟨⟨vs, y, ex_t (e3.trans e4) hp, hy⟩, fun v A'' hyl => ?_⟩
    obtain ⟨rfl, hall⟩ := hyl
    have ev := (hall vs (ex_t (e3.trans e4) hp)).symm.trans hy
    rw [Option.some.inj ev]
    exact ⟨G', .refl e4, z.mono e3⟩
end
theorem ps_never {X : Cx} {st : Stmt} : PS X st (fun _ _ _ => False) := ⟨fun _ _ _ _ _ _ h => False.elim h⟩
end Mi

set_option maxHeartbeats 2000000
namespace Mi
open PySem PySem.Spec PyProof.Rows L2 Evl
section
variable {K : PySem.W.Frag} {σ : L2.St} {G A : Hp} {te tk tv : TE} {t : TT} {wi : TI} {g : TG} {d : Dd} {D : Ends} {tz : TS}
theorem s_drop (h : Ef K te σ G d) (hA : Ex G A) (k : ∀ v G' A', Step G A G' A' → Is K G' d v → tz D σ A') : tSeq (tDrop te) tz D σ A := h G A (Ex.refl G) hA _ fun v G' A' s z => k v G' A' s z
/-- a dict comprehension: what it holds is not told -/
theorem ef_dc {α : Type} {its : List α} {inj : α → Dd} {vs : List Nat} (h : Itf K wi σ G (its.map inj)) (hz : its.length ≤ 50000)
    (hs : ∀ (i : Nat) x v G' A', Ex G G' → Ex G' A' → its[i]? = some x → Is K G' (inj x) v → ∃ σ2, (∀ Q : L2.St → Hp → Prop, Q σ2 A' → g v (wipe σ vs) A' Q) ∧ wipe σ2 vs = wipe σ vs ∧ ∃ (k : Key) (z : V), Er K tk σ2 A' (.v (kV k)) ∧ Er K tv σ2 A' (.v z)) :
    Ef K (tDc wi g tYes tk tv vs) σ G .D := fun G0 A0 e0 ea0 Q q =>
  h G0 A0 e0 ea0 _ fun J G1 A1 s1 hw => fun Dl hD => by
    have gD := ex_out s1.v hD
    refine ⟨fun i m A' => m = its.length - i ∧ i ≤ its.length ∧ ∃ G', Step G1 A1 G' A' ∧ G' Dl = none ∧ ∃ kvs, A' Dl = some (.dK kvs) ∧ kvs.length ≤ i, ⟨_, rfl, Nat.zero_le _, G1, .on s1.v (Ex.new hD), gD, [], upd_same, Nat.le_refl _⟩, ?_⟩
    rintro i m A' ⟨rfl, hi, G', st, hg, kvs, hu, hl⟩
    by_cases hlt : i < its.length
    · have hx : its[i]? = some its[i] := List.getElem?_eq_getElem hlt
      have hd' : (its.map inj)[i]? = some (inj its[i]) := by rw [List.getElem?_map, hx]; rfl
      obtain ⟨go, yl⟩ := (hw i G' A' st.g st.v).1 _ hd'
      refine .inr ⟨go, fun A3 => ∃ G3, Step G1 A1 G3 A3 ∧ G3 Dl = none ∧ ∃ kvs, A3 Dl = some (.dK kvs) ∧ kvs.length ≤ i + 1, fun A3 p3 => ⟨its.length - (i + 1), by omega, rfl, hlt, p3⟩, fun v A'' y => ?_⟩
      obtain ⟨G2, s2, z⟩ := yl v A'' y
      have uN : A' Dl ≠ none := by rw [hu]; simp
      have g2 := s2.f Dl uN hg
      have u2 := s2.a Dl _ hu
      obtain ⟨σ2, hgt, hwp, k, zv, htk, htv⟩ := hs i _ v G2 A'' ((e0.trans s1.g).trans (st.g.trans s2.g)) s2.v hx z
      refine hgt _ ⟨hwp, ?_⟩
      unfold tYes
      dsimp only
      rw [if_pos rfl]
      refine htk A'' (Ex.refl _) _ fun w A3 e3 zw => ?_
      refine htv A3 e3 _ fun w2 A4 e4 zw2 => ?_
      have s4 := (st.trans s2).trans (Step.on s2.v (e3.trans e4))
      refine ⟨kvs, k, zw, e4 Dl _ (e3 Dl _ u2), sz_lt (by omega), G2, s4.grow hD g2, g2, _, upd_same, ?_⟩
      have := length_putK kvs k w2
      omega
    · have e : i = its.length := by omega
      subst e
      refine .inl ⟨(hw _ G' A' st.g st.v).2 (by rw [List.length_map]), q _ (upd G' Dl (.dK kvs)) A' (s1.trans (st.seal hD hg hu)) ⟨Dl, kvs, rfl, upd_same⟩⟩
end
/-! ### a stock -/
abbrev prD (sts : List (List Nat × List Nat)) : List Dd := sts.map fun p => Dd.U [.s (S p.1), .s (S p.2)]
def stFlds (n : Int) (ps dd : Addr) : List (Str × V) := putF "_stamp_of" (.ref dd) (putF "stamps" (.ref ps) (putF "size" (.int n) []))
theorem ne_ss : ¬ (("size" : Str) = "stamps") := by decide +kernel
theorem ne_so : ¬ (("size" : Str) = "_stamp_of") := by decide +kernel
theorem ne_to : ¬ (("stamps" : Str) = "_stamp_of") := by decide +kernel
theorem stFlds_size (n : Int) (ps dd : Addr) : (stFlds n ps dd).lookup ("size" : Str) = some (.int n) := by
  unfold stFlds
  rw [lookup_putF, if_neg ne_so, lookup_putF, if_neg ne_ss, lookup_putF, if_pos rfl]
theorem stFlds_stamps (n : Int) (ps dd : Addr) : (stFlds n ps dd).lookup ("stamps" : Str) = some (.ref ps) := by
  unfold stFlds
  rw [lookup_putF, if_neg ne_to, lookup_putF, if_pos rfl]
def stockD (K : PySem.W.Frag) (C : Addr) (n : Int) (sts : List (List Nat × List Nat)) : Dd := .P ⟨fun H y => ∃ x dx ps dd kvs, y = .ref x ∧ H x = some (.ins C dx (stFlds n ps dd)) ∧ Is K H (.U (prD sts)) (.ref ps) ∧ H dd = some (.dK kvs), by
  rintro H H' y e ⟨x, dx, ps, dd, kvs, rfl, h1, h2, h3⟩
  exact ⟨x, dx, ps, dd, kvs, rfl, e x _ h1, h2.mono e, e dd _ h3⟩⟩
section
variable {K : PySem.W.Frag} {σ : L2.St} {G A : Hp} {te : TE} {C : Addr} {n : Int} {sts : List (List Nat × List Nat)} {x : V} {i : Nat}
/-- stock.stamps -/
theorem ef_stamps (cl : Cls K C) (na : NoAttr K C "stamps") (h : Ef K te σ G (stockD K C n sts)) : Ef K (tFld K te "stamps") σ G (.U (prD sts)) := fun G1 A e1 e2 Q q =>
  h G1 A e1 e2 _ fun v G2 A2 s ⟨x, dx, ps, dd, kvs, ev, h1, h2, h3⟩ => by
    subst ev
    exact ⟨x, C, dx, _, .ref ps, rfl, s.v x _ h1, cl, na, stFlds_stamps n ps dd, q _ G2 A2 s h2⟩
/-- for .. in stock, the stock in slot i -/
theorem if_stock (hx : σ[i]? = some (some x)) (h : Is K G (stockD K C n sts) x) : Itf K (iOwn K C "stamps" (tVar i)) σ G (prD sts) := if_own fun G1 A e1 e2 Q q => by
  obtain ⟨x0, dx, ps, dd, kvs, rfl, h1, h2, h3⟩ := h
  exact ⟨.ref x0, hx, q x0 dx _ ps (e2 x0 _ (e1 x0 _ h1)) (stFlds_stamps n ps dd) (h2.mono e1)⟩
end
end Mi

set_option maxHeartbeats 2000000
namespace Mi
open PySem PySem.Spec PyProof.Rows L2 Evl
/-! ### lists and tuples of texts compared -/
section
variable {K : PySem.W.Frag} {H : Hp}
theorem dpAll_strs : ∀ ys : List (List Nat), DpAll K H (vsl ys) (ys.map fun l => PyData.str (S l))
  | [] => .nil
  | n :: r => .cons (.str (S n)) (dpAll_strs r)
theorem eqv_strs : ∀ xs ys : List (List Nat), PyData.eqvAll (xs.map fun l => PyData.str (S l)) (ys.map fun l => PyData.str (S l)) = decide (xs = ys)
  | [], [] => by simp [PyData.eqvAll]
  | [], _ :: _ => by simp [PyData.eqvAll]
  | _ :: _, [] => by simp [PyData.eqvAll]
  | a :: r, b :: t => by
    simp only [List.map_cons, PyData.eqvAll, PyData.eqv, eqv_strs r t]
    by_cases h : a = b
    · by_cases h' : r = t <;> simp [h, h']
    · have h2 : ¬ (S a = S b) := fun e => h (S_inj e)
      simp [h, h2]
def okT (l : List Nat) : Prop := PyData.strOk (S l) = true
theorem canLay_strs : ∀ ys : List (List Nat), (∀ l ∈ ys, okT l) → PyData.canLayAll0 (ys.map fun l => PyData.str (S l)) = true ∧ PyData.depthAll (ys.map fun l => PyData.str (S l)) = 0
  | [], _ => ⟨by simp [PyData.canLayAll0], by simp [PyData.depthAll]⟩
  | a :: r, h => by
    obtain ⟨h1, h2⟩ := canLay_strs r fun l hl => h l (List.mem_cons_of_mem _ hl)
    have h0 : PyData.strOk (S a) = true := h a (List.mem_cons_self ..)
    refine ⟨?_, ?_⟩
    · simp only [List.map_cons, PyData.canLayAll0, PyData.canLay0, h0, h1, Bool.and_self]
    · simp only [List.map_cons, PyData.depthAll, PyData.depth, h2]
      rfl
theorem shaped_strs {ys : List (List Nat)} (h : ∀ l ∈ ys, okT l) : SeqAt.shaped (.list (ys.map fun l => PyData.str (S l))) = true ∧ SeqAt.shaped (.tuple (ys.map fun l => PyData.str (S l))) = true := by
  obtain ⟨h1, h2⟩ := canLay_strs ys h
  simp [SeqAt.shaped, PyData.canLay0, PyData.depth, h1, h2]
theorem ro_eqLs {xs ys : List (List Nat)} (hx : ∀ l ∈ xs, okT l) (hy : ∀ l ∈ ys, okT l) : Ro K (rEqD K) (.l (vsl xs)) (.l (vsl ys)) (.v (.bl (decide (xs = ys)))) := by
  rintro _ _ H1 ⟨p, rfl, hp⟩ ⟨p', rfl, hp'⟩ Q q
  refine ⟨_, _, .lst hp (dpAll_strs xs), .lst hp' (dpAll_strs ys), (shaped_strs hx).1, (shaped_strs hy).1, q _ H1 (Ex.refl H1) ?_⟩
  show V.bl (PyData.eqvAll _ _) = _
  rw [eqv_strs]
theorem ro_neLs {xs ys : List (List Nat)} (hx : ∀ l ∈ xs, okT l) (hy : ∀ l ∈ ys, okT l) : Ro K (rNeD K) (.l (vsl xs)) (.l (vsl ys)) (.v (.bl (!decide (xs = ys)))) := by
  rintro _ _ H1 ⟨p, rfl, hp⟩ ⟨p', rfl, hp'⟩ Q q
  refine ⟨_, _, .lst hp (dpAll_strs xs), .lst hp' (dpAll_strs ys), (shaped_strs hx).1, (shaped_strs hy).1, q _ H1 (Ex.refl H1) ?_⟩
  show V.bl (!PyData.eqvAll _ _) = _
  rw [eqv_strs]
theorem ro_eqUs {xs ys : List (List Nat)} (hx : ∀ l ∈ xs, okT l) (hy : ∀ l ∈ ys, okT l) : Ro K (rEqD K) (.u (vsl xs)) (.u (vsl ys)) (.v (.bl (decide (xs = ys)))) := by
  rintro _ _ H1 ⟨p, rfl, hp⟩ ⟨p', rfl, hp'⟩ Q q
  refine ⟨_, _, .tup hp (dpAll_strs xs), .tup hp' (dpAll_strs ys), (shaped_strs hx).2, (shaped_strs hy).2, q _ H1 (Ex.refl H1) ?_⟩
  show V.bl (PyData.eqvAll _ _) = _
  rw [eqv_strs]
/-! ### pairs of texts -/
def prP (p : List Nat × List Nat) : PyData := .tuple [.str (S p.1), .str (S p.2)]
theorem dpAll_prs : ∀ {sts : List (List Nat × List Nat)} {vs : List V}, IsE K H (prD sts) vs → DpAll K H vs (sts.map prP)
  | [], vs, h => by rw [show vs = [] from h]; exact .nil
  | p :: r, vs, h => by
    obtain ⟨x, rs, rfl, ⟨T, us, rfl, hT, y1, r1, rfl, hy1, y2, r2, rfl, hy2, hr2⟩, b⟩ := h
    have er : r2 = [] := hr2
    subst er
    obtain rfl : y1 = V.str (S p.1) := hy1
    obtain rfl : y2 = V.str (S p.2) := hy2
    exact .cons (.tup hT (.cons (.str _) (.cons (.str _) .nil))) (dpAll_prs b)
theorem eqv_prs_refl : ∀ sts : List (List Nat × List Nat), PyData.eqvAll (sts.map prP) (sts.map prP) = true
  | [] => by simp [PyData.eqvAll]
  | p :: r => by
    simp only [List.map_cons, PyData.eqvAll, PyData.eqv, prP, eqv_prs_refl r]
    simp [PyData.eqvAll, PyData.eqv]
theorem canLay_prs : ∀ sts : List (List Nat × List Nat), (∀ p ∈ sts, okT p.1 ∧ okT p.2) → PyData.canLayAll0 (sts.map prP) = true ∧ PyData.depthAll (sts.map prP) ≤ 1
  | [], _ => ⟨by simp [PyData.canLayAll0], by simp [PyData.depthAll]⟩
  | p :: r, h => by
    obtain ⟨h1, h2⟩ := canLay_prs r fun l hl => h l (List.mem_cons_of_mem _ hl)
    obtain ⟨a1, a2⟩ := h p (List.mem_cons_self ..)
    have b1 : PyData.strOk (S p.1) = true := a1
    have b2 : PyData.strOk (S p.2) = true := a2
    refine ⟨?_, ?_⟩
    · simp only [List.map_cons, PyData.canLayAll0, PyData.canLay0, prP, b1, b2, h1, Bool.and_self]
    · simp only [List.map_cons, PyData.depthAll, PyData.depth, prP]
      omega
theorem ro_eqPr {sts : List (List Nat × List Nat)} (h : ∀ p ∈ sts, okT p.1 ∧ okT p.2) : Ro K (rEqD K) (.U (prD sts)) (.U (prD sts)) (.b true) := by
  rintro _ _ H1 ⟨p, vs, rfl, hp, hE⟩ ⟨p', vs', rfl, hp', hE'⟩ Q q
  obtain ⟨h1, h2⟩ := canLay_prs sts h
  have sh : SeqAt.shaped (.tuple (sts.map prP)) = true := by
    simp [SeqAt.shaped, PyData.canLay0, PyData.depth, h1]
    omega
  refine ⟨_, _, .tup hp (dpAll_prs hE), .tup hp' (dpAll_prs hE'), sh, sh, q _ H1 (Ex.refl H1) ?_⟩
  show V.bl (PyData.eqvAll _ _) = _
  rw [eqv_prs_refl]
end
section
variable {K : PySem.W.Frag} {σ : L2.St} {G : Hp} {ta tb : TE} {tr : TA} {d1 d2 : Dd} {C : Addr} {n : Nat} {sts : List (List Nat × List Nat)}
theorem ef_call2 {T : Type} {pre : T → Prop} {args : T → List Dd} {ret : T → Dd} (a : T) (h1 : Ef K ta σ G d1) (h2 : Ef K tb σ G d2) (hd : [d2, d1] = args a) (hp : pre a) : Ef K (tCall2 (spF K pre args ret) ta tb) σ G (ret a) := fun G1 A e1 e2 Q q =>
  h1 G1 A e1 e2 _ fun v1 G2 A2 s z1 => h2 G2 A2 (e1.trans s.g) s.v _ fun v2 G3 A3 s3 z2 => ⟨v1, v2, rfl, a, hp, G3, s3.v, hd ▸ .cons z2 (.cons (z1.mono s3.g) .nil), fun v G4 A4 s4 z => q v G4 A4 ((s.trans s3).trans s4) z⟩
end
end Mi
namespace Mi
open PySem PySem.Spec PyProof.Rows L2 Evl
theorem okT_of {l : List Nat} (h : ∀ c ∈ l, c < 1114112) : okT l := by
  unfold okT PyData.strOk
  rw [← Array.all_toList]
  show l.all _ = true
  rw [List.all_eq_true]
  exact fun c hc => decide_eq_true (h c hc)
section
variable {K : PySem.W.Frag} {σ : L2.St} {H H' : Hp} {te ta tb : TE} {tr : TA} {d1 d2 : Dd} {ds : List Dd} {D : Ends} {tz : TS} {C : Addr} {n : Nat} {sts : List (List Nat × List Nat)}
theorem er_callF {T : Type} {pre : T → Prop} {args : T → List Dd} {ret : T → Dd} {E : XK} (a : T) (h : Era K tr σ H ds) (hd : ds = args a) (hp : pre a) : Er K (tCall (spF K pre args ret) [] E tr) σ H (ret a) := fun H1 e Q q =>
  h H1 e _ fun vs H2 e2 z => by
    rw [List.append_nil]
    exact ⟨a, hp, H2, Ex.refl _, hd ▸ z, fun v G' A' s z3 => q v A' (e2.trans s.a) (z3.mono s.v)⟩
theorem er_call2F {T : Type} {pre : T → Prop} {args : T → List Dd} {ret : T → Dd} (a : T) (h1 : Er K ta σ H d1) (h2 : Er K tb σ H d2) (hd : [d2, d1] = args a) (hp : pre a) : Er K (tCall2 (spF K pre args ret) ta tb) σ H (ret a) := fun H1 e Q q =>
  h1 H1 e _ fun v1 H2 e2 z1 => h2 H2 (e.trans e2) _ fun v2 H3 e3 z2 => ⟨v1, v2, rfl, a, hp, H3, Ex.refl _, hd ▸ .cons z2 (.cons (z1.mono e3) .nil), fun v G' A' s z => q v A' ((e2.trans e3).trans s.a) (z.mono s.v)⟩
/-- a new list that is written out and will grow -/
theorem a_newL {i : Nat} {vs : List V} (h : Era K tr σ H (vs.map Dd.v)) (hl : vs.length ≤ 100000) (k : ∀ p H1, H p = none → Ex H H1 → H1 p = some (.lst vs) → tz D (σ.set i (some (.ref p))) H1) : tSeq (tAsg (tLst tr) (gName i)) tz D σ H :=
  h H (Ex.refl H) _ fun ws H2 e2 z => by
    have ew := flat_all z
    subst ew
    exact ⟨sz_of hl, fun p hp => k p _ (fresh_back e2 hp) (e2.trans (Ex.new hp)) upd_same⟩
theorem uS {xs : List (List Nat)} {v : V} (h : Is K H (.U (xs.map fun l => Dd.s (S l))) v) : Is K H (.u (vsl xs)) v := by
  refine Is.U2u (xs := vsl xs) ?_
  rw [vsl, vss, List.map_map, List.map_map]
  exact h
theorem nS {xs : List (List Nat)} {v : V} (h : Is K H (.N (xs.map fun l => Dd.s (S l))) v) : Is K H (.n (vsl xs)) v := by
  refine Is.N2n (xs := vsl xs) ?_
  rw [vsl, vss, List.map_map, List.map_map]
  exact h
end
/-- some texts of one length -/
def layersD (K : PySem.W.Frag) (n : Nat) : Dd := .P ⟨fun H y => ∃ L : List (List Nat), (∀ l ∈ L, l.length = n) ∧ 1 ≤ L.length ∧ L.length ≤ 50 ∧ Is K H (.n (vsl L)) y, by
  rintro H H' y e ⟨L, h1, h2, h3, h4⟩
  exact ⟨L, h1, h2, h3, h4.mono e⟩⟩
end Mi

set_option maxHeartbeats 2000000
namespace Mi
open PySem PySem.Spec PyProof.Rows L2 Evl
/-! ### things of any kind: texts, nested lists and tuples, dicts, an object -/
section
variable {K : PySem.W.Frag} {H H' : Hp}
mutual
theorem dp_mono (e : Ex H H') : ∀ {x : V} {d : PyData}, Dp K H x d → Dp K H' x d
  | _, _, .non => .non
  | _, _, .bl b => .bl b
  | _, _, .int i => .int i
  | _, _, .str x => .str x
  | _, _, .lst h hs => .lst (ex_l e h) (dpAll_mono e hs)
  | _, _, .tup h hs => .tup (ex_t e h) (dpAll_mono e hs)
theorem dpAll_mono (e : Ex H H') : ∀ {xs : List V} {ds : List PyData}, DpAll K H xs ds → DpAll K H' xs ds
  | _, _, .nil => .nil
  | _, _, .cons a b => .cons (dp_mono e a) (dpAll_mono e b)
end
def datV : V → PyData
  | .bl b => .bool b
  | .int i => .int i
  | .str x => .str x
  | _ => .none
def goodV : V → Bool
  | .non => true
  | .bl _ => true
  | .int _ => true
  | .str _ => true
  | _ => false
mutual
def datD : Dd → PyData
  | .v x => datV x
  | .N ds => .list (datL ds)
  | .U ds => .tuple (datL ds)
  | _ => .none
def datL : List Dd → List PyData
  | [] => []
  | d :: r => datD d :: datL r
end
mutual
def goodD : Dd → Bool
  | .v x => goodV x
  | .N ds => goodL ds
  | .U ds => goodL ds
  | _ => false
def goodL : List Dd → Bool
  | [] => true
  | d :: r => goodD d && goodL r
end
theorem dp_v : ∀ {x : V}, goodV x = true → Dp K H x (datV x)
  | .non, _ => .non
  | .bl b, _ => .bl b
  | .int i, _ => .int i
  | .str z, _ => .str z
  | .byt _, h => by cases h
  | .flt _, h => by cases h
  | .ref _, h => by cases h
  | .ty _, h => by cases h
mutual
theorem dp_of : ∀ {d : Dd} {x : V}, goodD d = true → Is K H d x → Dp K H x (datD d)
  | .v y, x, g, h => by
    obtain rfl : x = y := h
    exact dp_v g
  | .N ds, x, g, h => by
    obtain ⟨p, vs, rfl, hp, hE⟩ := h
    exact .lst (sq_of hp) (dpAll_of g hE)
  | .U ds, x, g, h => by
    obtain ⟨p, vs, rfl, hp, hE⟩ := h
    exact .tup hp (dpAll_of g hE)
  | .D, _, g, _ => by cases g
  | .P _, _, g, _ => by cases g
  | .l _, _, g, _ => by cases g
  | .n _, _, g, _ => by cases g
  | .u _, _, g, _ => by cases g
  | .L _, _, g, _ => by cases g
theorem dpAll_of : ∀ {ds : List Dd} {xs : List V}, goodL ds = true → IsE K H ds xs → DpAll K H xs (datL ds)
  | [], xs, _, h => by
    rw [show xs = [] from h]
    exact .nil
  | d :: r, xs, g, h => by
    obtain ⟨x, rs, rfl, a, b⟩ := h
    have g2 : (goodD d && goodL r) = true := g
    rw [Bool.and_eq_true] at g2
    exact .cons (dp_of g2.1 a) (dpAll_of g2.2 b)
end
inductive Th where
  | t (l : List Nat)
  | c (d : Dd)
  | k (ks : List (Key × V))
  | o
def ThOk : Th → Prop
  | .t l => l.length ≤ 1000
  | .c d => goodD d = true ∧ (tyN d ≠ "?" ∧ tyN d ≠ "str") ∧ PyData.canLay0 (datD d) = true ∧ PyData.depth (datD d) ≤ 8
  | .k ks => ∀ p ∈ ks, valV ks p.1 = some p.2 ∧ flatB p.2 = true
  | .o => True
def thD (C : Addr) : Th → Dd
  | .t l => .s (S l)
  | .c d => d
  | .k ks => .P ⟨fun H x => ∃ a, x = .ref a ∧ H a = some (.dK ks), by rintro H H' x e ⟨a, rfl, h⟩; exact ⟨a, rfl, e a _ h⟩⟩
  | .o => .P ⟨fun H x => ∃ a dx fs, x = .ref a ∧ H a = some (.ins C dx fs), by rintro H H' x e ⟨a, dx, fs, rfl, h⟩; exact ⟨a, dx, fs, rfl, e a _ h⟩⟩
/-- what isinstance reads of the class C -/
structure ObTy (K : PySem.W.Frag) (C : Addr) : Prop where
  cl : Cls K C
  fc : PySem.W.findIn K (.ref C) "__class__" = some (some (.builtin "object.__class__"))
  sp : PySem.W.specialIn K (.builtin "object.__class__") "__get__" = some (some (.builtin "getset_descriptor.__get__"))
  tk : PySem.W.takesIn K (.builtin "object.__class__") = some true
  mr : PySem.W.mroIn K C (.type "object") = some true
  no : PySem.W.kitOne K (.ref C) (.type "str") = some false
def isT : Th → Bool
  | .t _ => true
  | _ => false
def txT : Th → List Nat
  | .t l => l
  | _ => []
theorem rc_isiTh {C : Addr} (O : ObTy K C) : ∀ {th : Th}, ThOk th → Rc K (rIsi K) [thD C th, .v (.ty "str")] (.b (isT th))
  | .t l, _ => rc_isi_str (b := true) (by decide +kernel)
  | .c d, h => rc_isiD h.2.1.1 (by
    have h2 := h.2.1.2
    show kitB (tyN d) "str" = some false
    rcases tyN_cases h.2.1.1 with e | e | e | e | e | e | e
    · rw [e]; decide +kernel
    · rw [e]; decide +kernel
    · rw [e]; decide +kernel
    · exact absurd e h2
    · rw [e]; decide +kernel
    · rw [e]; decide +kernel
    · rw [e]; decide +kernel)
  | .k ks, _ => rc_isi (.type "dict") (fun H1 v z => by obtain ⟨a, rfl, h⟩ := z; exact .base (.dK h)) (b := false) (kit_ty (by decide +kernel))
  | .o, _ => rc_isi (.ref C) (fun H1 v z => by obtain ⟨a, dx, fs, rfl, h⟩ := z; exact .base (.ins h O.cl O.fc O.sp O.tk O.mr)) O.no
theorem is_text {C : Addr} : ∀ {th : Th} {x : V}, isT th = true → Is K H (thD C th) x → x = .str (S (txT th))
  | .t l, _, _, h => h
  | .c _, _, h, _ => by cases h
  | .k _, _, h, _ => by cases h
  | .o, _, h, _ => by cases h

/-! ### == of lists of such things -/
def EqI (K : PySem.W.Frag) (H : Hp) (x y : V) : Prop := (x = y ∧ flatB x = true) ∨ (∃ d, Dp K H x d ∧ Dp K H y d ∧ PyData.canLay0 d = true ∧ PyData.depth d ≤ 8) ∨ EqV K H 3 x y
def rEqZ (K : PySem.W.Frag) : R2 := fun x y H Q => ∃ a b xs ys, x = .ref a ∧ y = .ref b ∧ SqL K H a xs ∧ SqL K H b ys ∧ Paired (EqI K H) xs ys ∧ Q (.bl true) H
theorem op_eqZ {X : Cx} (hu : X.A.units + 64 < cLine) : OpR X (compareOp .Eq) (rEqZ X.K) := by
  rintro pins s σ H x y v u Q I rx ry ⟨a, b, xs, ys, rfl, rfl, ha, hb, hp, q⟩
  have u1 : X.A.in1.units = X.A.units + 1 := rfl
  refine L2.eqR_run I (F := EqI X.K H) (by omega) ?_ (.inl ⟨a, b, xs, ys, rfl, rfl, ha, hb, hp⟩) rx ry X.xe (EP X pins σ Q) ⟨.bl true, H, I, rfl, q⟩
  rintro x y v u (⟨rfl, f⟩ | ⟨d, h1, h2, c, dp⟩ | h) r1 r2
  · exact (eqAt_same r1 r2 f).eqP
  · obtain ⟨as, q1⟩ := Dp.reads I d x v h1 r1
    obtain ⟨bs, q2⟩ := Dp.reads I d y u h2 r2
    have e := SeqAt.eqAt_reads d d X.A.in1 s v u as bs q1 q2 c c (by omega)
    rw [SeqAt.eqv_refl d c] at e
    exact e.eqP
  · exact L2.eqV_run I 3 X.A.in1 (by omega) x y v u h r1 r2
theorem op_eqZ_k {X : Cx} {K : PySem.W.Frag} (hu : X.A.units + 64 < cLine) (h : X.K = K := by rfl) : OpR X (compareOp .Eq) (rEqZ K) := h ▸ op_eqZ hu
theorem eqI_th {C : Addr} : ∀ {th : Th} {x y : V}, ThOk th → th ≠ .o → Is K H (thD C th) x → Is K H (thD C th) y → EqI K H x y
  | .t l, x, y, _, _, h1, h2 => by
    obtain rfl : x = V.str (S l) := h1
    obtain rfl : y = V.str (S l) := h2
    exact .inl ⟨rfl, rfl⟩
  | .c d, x, y, h, _, h1, h2 => .inr (.inl ⟨datD d, dp_of h.1 h1, dp_of h.1 h2, h.2.2.1, h.2.2.2⟩)
  | .k ks, x, y, h, _, ⟨a, ea, h1⟩, ⟨b, eb, h2⟩ => by
    subst ea
    subst eb
    refine .inr (.inr ?_)
    rw [L2.EqV.eq_2]
    refine .inr (.inr (.inr ⟨a, b, ks, ks, rfl, rfl, h1, h2, rfl, fun p hp => ⟨p.2, (h p hp).1, ?_⟩⟩))
    rw [L2.EqV.eq_2]
    exact .inl ⟨rfl, (h p hp).2⟩
  | .o, _, _, _, n, _, _ => absurd rfl n
theorem paired_th {C : Addr} : ∀ {ths : List Th} {xs ys : List V}, (∀ th ∈ ths, ThOk th ∧ th ≠ .o) → IsE K H (ths.map (thD C)) xs → IsE K H (ths.map (thD C)) ys → Paired (EqI K H) xs ys
  | [], xs, ys, _, h1, h2 => by
    rw [show xs = [] from h1, show ys = [] from h2]
    exact .nil
  | th :: r, xs, ys, h, h1, h2 => by
    obtain ⟨x, xr, rfl, a1, b1⟩ := h1
    obtain ⟨y, yr, rfl, a2, b2⟩ := h2
    have q := h th (List.mem_cons_self ..)
    exact .cons (eqI_th q.1 q.2 a1 a2) (paired_th (fun t ht => h t (List.mem_cons_of_mem _ ht)) b1 b2)
theorem ro_eqZ {C : Addr} {ths : List Th} (h : ∀ th ∈ ths, ThOk th ∧ th ≠ .o) : Ro K (rEqZ K) (.L (ths.map (thD C))) (.N (ths.map (thD C))) (.b true) := by
  rintro _ _ H1 ⟨p, vs, rfl, hp, hE⟩ ⟨p', vs', rfl, hp', hE'⟩ Q q
  exact ⟨p, p', vs, vs', rfl, rfl, hp, sq_of hp', paired_th h hE hE', q _ H1 (Ex.refl H1) rfl⟩
end
section
variable {K : PySem.W.Frag} {σ : L2.St} {H G A : Hp} {te ta tb tc ti to : TE} {tr : TA} {d d1 d2 : Dd} {ds : List Dd} {x y : V} {C : Addr}
/-! ### making them -/
theorem ef_d0 : Ef K tDNewK σ G (thD C (.k [])) := fun G1 A e1 e2 Q q p hp => q _ (upd G1 p (.dK [])) _ (Step.new e2 hp) ⟨p, rfl, upd_same⟩
theorem step_new2 {G A A2 : Hp} {p : Addr} {o o' : HO} (e : Ex G A) (hp : A p = none) (e2 : Ex (upd A p o) A2) : Step G A (upd G p o') (upd A2 p o') := by
  have hg := ex_out e hp
  have eA : Ex A A2 := (Ex.new hp).trans e2
  refine ⟨Ex.new hg, ex_both (e.trans eA) hg, eA.mut hp, fun b h h2 => ?_⟩
  have hb : b ≠ p := fun z => h (by rw [z]; exact hp)
  rw [upd_ne hb]
  exact h2
theorem ef_d1 {a : Str} (h1 : Er K ta σ G (.s a)) (h2 : Er K tb σ G (.v y)) : Ef K (tDisp [(ta, tb)]) σ G (thD C (.k [(.inr a, y)])) := fun G1 A e1 e2 Q q p hp =>
  h1 _ ((e1.trans e2).trans (Ex.new hp)) _ fun v2 H2 e3 z2 => h2 _ (((e1.trans e2).trans (Ex.new hp)).trans e3) _ fun v3 H3 e4 z3 => by
    obtain rfl : v2 = V.str a := z2
    obtain rfl : v3 = y := z3
    exact ⟨(e3.trans e4) p _ upd_same, [(.inr a, v3)], rfl, by simp, q _ _ _ (step_new2 e2 hp (e3.trans e4)) ⟨p, rfl, upd_same⟩⟩
theorem mergeK2 {a b : Str} {x y : V} (h : a ≠ b) : mergeK [] [(.inr a, x), (.inr b, y)] = [(.inr a, x), (.inr b, y)] := by
  have e : ¬ ((Sum.inr a : Key) = .inr b) := fun z => h (Sum.inr.inj z)
  simp [mergeK, putK, e]
theorem ef_d2 {a b : Str} (h : a ≠ b) (h1 : Er K ta σ G (.s a)) (h2 : Er K tb σ G (.v x)) (h3 : Er K tc σ G (.s b)) (h4 : Er K to σ G (.v y)) : Ef K (tDisp [(ta, tb), (tc, to)]) σ G (thD C (.k [(.inr a, x), (.inr b, y)])) := fun G1 A e1 e2 Q q p hp =>
  h1 _ ((e1.trans e2).trans (Ex.new hp)) _ fun v2 H2 e3 z2 => h2 _ (((e1.trans e2).trans (Ex.new hp)).trans e3) _ fun v3 H3 e4 z3 => h3 _ ((((e1.trans e2).trans (Ex.new hp)).trans e3).trans e4) _ fun v4 H4 e5 z4 => h4 _ (((((e1.trans e2).trans (Ex.new hp)).trans e3).trans e4).trans e5) _ fun v5 H5 e6 z5 => by
    obtain rfl : v2 = V.str a := z2
    obtain rfl : v3 = x := z3
    obtain rfl : v4 = V.str b := z4
    obtain rfl : v5 = y := z5
    have eE := ((e3.trans e4).trans e5).trans e6
    exact ⟨eE p _ upd_same, [(.inr a, v3), (.inr b, v5)], rfl, by simp, q _ _ _ (step_new2 e2 hp eE) ⟨p, rfl, by rw [mergeK2 h]; exact upd_same⟩⟩
/-- [.., .., ..][i] -/
theorem ef_at {i : Int} (ths : List Th) (h : Efa K tr σ G (ths.map (thD C))) (hi : Er K ti σ G (.i i)) (h0 : 0 ≤ i) (h1 : i < ths.length) (hz : ths.length ≤ 1000) : Ef K (tOp (rIxL K) (tLst tr) ti) σ G (thD C (ths.getD i.toNat .o)) := by
  have e : ((i.toNat : Nat) : Int) = i := Int.toNat_of_nonneg h0
  have hlt : i.toNat < ths.length := by omega
  refine ef_op (ef_N h (by rw [List.length_map]; omega)) (ef_flat hi) ?_
  rw [← e]
  refine rf_ixN ?_
  rw [List.getElem?_map, Int.toNat_natCast, List.getD_eq_getElem?_getD, List.getElem?_eq_getElem hlt]
  rfl
theorem mem_getD {α : Type} {l : List α} {i : Nat} {z : α} (h : i < l.length) : l.getD i z ∈ l := by
  rw [List.getD_eq_getElem?_getD, List.getElem?_eq_getElem h]
  exact List.getElem_mem h
end
end Mi

set_option maxHeartbeats 2000000
namespace Mi
open PySem PySem.Spec PyProof.Rows L2 Evl
theorem cr_any_k {X : Cx} {K : PySem.W.Frag} (h : X.K = K := by rfl) (hc : X.calm = true := by rfl) : CallR X (.builtin "any") (rAny K) := h ▸ cr_any hc
section
variable {K : PySem.W.Frag} {σ : L2.St} {G A H H' : Hp} {te ta tb tc : TE} {t u : TT} {tr : TA} {x y : V}
theorem rc_anyB {bs : List Bool} : Rc K (rAny K) [.l (bs.map V.bl)] (.b (bs.any id)) := by
  rintro _ H1 (_ | ⟨⟨p, rfl, hp⟩, _ | _⟩) Q q
  exact ⟨p, bs, rfl, hp, q _ H1 (Ex.refl H1) rfl⟩
theorem rc_anyBN {bs : List Bool} : Rc K (rAny K) [.n (bs.map V.bl)] (.b (bs.any id)) := fun vs H1 h Q q => by
  cases h with
  | cons a b => exact rc_anyB _ H1 (.cons a.n2l b) Q q
/-- a list or a tuple of cells -/
def csD (b : Bool) (cs : List Nat) : Dd := if b = true then .U (cs.map fun c : Nat => Dd.i (c : Int)) else .L (cs.map fun c : Nat => Dd.i (c : Int))
theorem if_cs {b : Bool} {cs : List Nat} {i : Nat} (hx : σ[i]? = some (some x)) (h : Is K G (csD b cs) x) : Itf K (iSeqV K i) σ G (cs.map fun c : Nat => Dd.i (c : Int)) := by
  cases b with
  | true => exact if_seqU hx h
  | false => exact if_seqL hx h
/-- [test of cell for cell in cells], the cells in slot i, the cell in slot j -/
theorem er_lcB {b : Bool} {cs : List Nat} {i j : Nat} (g : Nat → Bool) (hx : σ[i]? = some (some x)) (h : Is K H (csD b cs) x) (hz : cs.length ≤ 1000) (hw : ∀ v, wipe ((wipe σ [j]).set j (some v)) [j] = wipe σ [j])
    (he : ∀ c ∈ cs, ∀ H1, Ex H H1 → Er K te ((wipe σ [j]).set j (some (.int (c : Int)))) H1 (.b (g c))) : Er K (tLc (iSeqV K i) (gName j) tYes te [j]) σ H (.n ((cs.map g).map V.bl)) :=
  Er.as (Ef.er (Ef.to (ef_lc (K := K) (its := cs) (inj := fun c : Nat => Dd.i (c : Int)) (vs := [j]) (fun _ => true) (fun c => Dd.b (g c)) (if_cs hx h) (by omega) (fun k c v G' A' e1 e2 hi hv => by
    obtain rfl : v = V.int (c : Int) := hv
    exact ⟨(wipe σ [j]).set j (some (.int (c : Int))), fun Q q => q, hw _, fun H2 e Q q => q H2 (Ex.refl _), fun _ => ef_flat (he c (List.mem_of_getElem? hi) G' e1)⟩)) (by rw [filt_true]))) fun Hx v z => by
      refine Is.N2n (xs := (cs.map g).map V.bl) ?_
      rw [List.map_map, List.map_map]
      exact z
end
end Mi

set_option maxHeartbeats 2000000
namespace Mi
open PySem PySem.Spec PyProof.Rows L2 Evl
/-! ### x in obj, the object's class has its own __contains__ -/
def rInO (C : Addr) (sp : Sp) (neg : Bool) : R2 := fun x y H Q => ∃ a dx fs, y = .ref a ∧ H a = some (.ins C dx fs) ∧ sp [y, x] H (fun v H' => ∃ b, v = .bl b ∧ Q (.bl (if neg = true then !b else b)) H') E0
theorem in_own {X : Cx} {k : Nat} {f C : Addr} {fd : FuncData} {sp : Sp} {p1 p2 : Str} (hi : PySem.W.findIn X.K (.ref C) "__contains__" = some (some (.ref f))) (hfn : PySem.W.isFn X.K (.ref f) = true) (F : FnOk X.prog X.w X.K X.mg X.base CX0 k f fd [p1, p2] sp) (hb : Binds X.K fd [p1, p2] []) (hr : Room k X.A)
    {pins : List (Addr × Obj)} {s : Shared} {σ : L2.St} {H : Hp} {x : V} {a dx : Addr} {fs : List (Str × V)} {v : Value} {Qb : Bool → Hp → Prop} {R : Bool → Shared → Prop} (I : Inv X pins σ H s) (rx : RelV x v) (hx : H a = some (.ins C dx fs))
    (h : sp [.ref a, x] H (fun v H' => ∃ b, v = .bl b ∧ Qb b H') E0) (hR : ∀ b s' H', Inv X pins σ H' s' → Qb b H' → R b s') : wpAny (PySem.model X.prog X.w) X.A (PySem.contains (.ref a) v) R X.xe s := by
  obtain ⟨mA, J, _⟩ := ins_get I.hok hx
  obtain ⟨od, J, _⟩ := J.look
  obtain ⟨m, hF⟩ := I.fr
  refine PySem.W.contains_K hF I.ok.mod.kin J hi hfn ?_
  have bd := hb s [.ref a, v] (I.kIn) rfl
  refine wpAny_call (codeAny_mono (F.run X.A X.stack s H ⟨[.ref a, v], []⟩ [.ref a, v] [.ref a, x] _ E0 hr I.env0 bd (.cons rfl (.cons rx .nil)) h) fun r s' hq => ?_)
  cases r with
  | error e => exact pass0 pins σ H s e s' I hq
  | ok fl =>
    cases fl with
    | ret u =>
      obtain ⟨w, H', I2, rv, b, rfl, q⟩ := I.after hq
      have eu : u = .bool b := rv
      subst eu
      show wpAny _ _ (truthy (Value.bool b)) R _ s'
      rw [show truthy (Value.bool b) = pure b from rfl]
      exact wpAny_pure (hR b s' H' I2 q)
    | next => exact False.elim hq
    | brk => exact False.elim hq
    | cont => exact False.elim hq
theorem op_inO {X : Cx} {k : Nat} {f C : Addr} {fd : FuncData} {sp : Sp} {p1 p2 : Str} (hi : PySem.W.findIn X.K (.ref C) "__contains__" = some (some (.ref f))) (hfn : PySem.W.isFn X.K (.ref f) = true) (F : FnOk X.prog X.w X.K X.mg X.base CX0 k f fd [p1, p2] sp) (hb : Binds X.K fd [p1, p2] []) (hr : Room k X.A) : OpR X (compareOp .In) (rInO C sp false) := by
  rintro pins s σ H x y v u Q I rx ry ⟨a, dx, fs, rfl, hx, h⟩
  have eu : u = .ref a := ry
  subst eu
  show wpAny (PySem.model X.prog X.w) X.A (PySem.contains (.ref a) v >>= fun b => (pure (Value.bool b) : Sem Value)) (EP X pins σ Q) X.xe s
  refine wpAny_bind (in_own hi hfn F hb hr I rx hx (Qb := fun b H' => Q (.bl b) H') h fun b s' H' J q => ?_)
  exact wpAny_pure ⟨.bl b, H', J, rfl, q⟩
theorem op_notInO {X : Cx} {k : Nat} {f C : Addr} {fd : FuncData} {sp : Sp} {p1 p2 : Str} (hi : PySem.W.findIn X.K (.ref C) "__contains__" = some (some (.ref f))) (hfn : PySem.W.isFn X.K (.ref f) = true) (F : FnOk X.prog X.w X.K X.mg X.base CX0 k f fd [p1, p2] sp) (hb : Binds X.K fd [p1, p2] []) (hr : Room k X.A) : OpR X (compareOp .NotIn) (rInO C sp true) := by
  rintro pins s σ H x y v u Q I rx ry ⟨a, dx, fs, rfl, hx, h⟩
  have eu : u = .ref a := ry
  subst eu
  show wpAny (PySem.model X.prog X.w) X.A (PySem.contains (.ref a) v >>= fun b => (pure (Value.bool !b) : Sem Value)) (EP X pins σ Q) X.xe s
  refine wpAny_bind (in_own hi hfn F hb hr I rx hx (Qb := fun b H' => Q (.bl !b) H') h fun b s' H' J q => ?_)
  exact wpAny_pure ⟨.bl !b, H', J, rfl, q⟩
end Mi
namespace Mi
open PySem PySem.Spec PyProof.Rows L2 Evl
/-! ### text in dict, the dict one of ours -/
def rInK (neg : Bool) : R2 := fun x y H Q => ∃ p z kvs, x = .str z ∧ y = .ref p ∧ H p = some (.dK kvs) ∧ Q (.bl (if neg = true then !(valV kvs (Sum.inr z)).isSome else (valV kvs (Sum.inr z)).isSome)) H
theorem relO_some {a : Option V} {b : Option Value} (h : RelO a b) : b.isSome = a.isSome := by
  cases a with
  | none =>
    cases b with
    | none => rfl
    | some v => exact h.elim
  | some x =>
    cases b with
    | none => exact h.elim
    | some v => rfl
theorem op_inK {X : Cx} : OpR X (compareOp .In) (rInK false) := by
  rintro pins s σ H x y v u Q I rx ry ⟨p, z, kvs, rfl, rfl, hp, q⟩
  obtain ⟨t, rfl⟩ := rx
  have eu : u = .ref p := ry
  subst eu
  obtain ⟨_, ya, va, ra, da⟩ := I.hok p (.dK kvs) hp
  refine PySem.wpAny_in_of (mixKind_str _ _ z t) ya da.mapOf ⟨.bl (valV kvs (Sum.inr z)).isSome, H, I.tok _, ?_, q⟩
  rw [relO_some (ra.val (Sum.inr z))]
  rfl
theorem op_notInK {X : Cx} : OpR X (compareOp .NotIn) (rInK true) := by
  rintro pins s σ H x y v u Q I rx ry ⟨p, z, kvs, rfl, rfl, hp, q⟩
  obtain ⟨t, rfl⟩ := rx
  have eu : u = .ref p := ry
  subst eu
  obtain ⟨_, ya, va, ra, da⟩ := I.hok p (.dK kvs) hp
  refine PySem.wpAny_notIn_of (mixKind_str _ _ z t) ya da.mapOf ⟨.bl (!(valV kvs (Sum.inr z)).isSome), H, I.tok _, ?_, q⟩
  rw [relO_some (ra.val (Sum.inr z))]
  rfl
end Mi
namespace Mi
open PySem PySem.Spec PyProof.Rows L2 Evl
/-! ### dict[text], the dict one of ours and the text a key of it -/
def rIxK : R2 := fun x y H Q => ∃ p z kvs v, x = .ref p ∧ y = .str z ∧ H p = some (.dK kvs) ∧ valV kvs (Sum.inr z) = some v ∧ Q v H
theorem ix_dK {X : Cx} : IxR X rIxK := by
  rintro value slice pins s σ H x y v u Q I rx ry ⟨p, z, kvs, w, rfl, rfl, hp, hv, q⟩ hs
  obtain ⟨t, rfl⟩ := ry
  have eu : v = .ref p := rx
  subst eu
  obtain ⟨_, ya, va, ra, da⟩ := I.hok p (.dK kvs) hp
  have r := ra.val (Sum.inr z)
  rw [hv] at r
  cases hw : valueAt va (Sum.inr z) with
  | none => rw [hw] at r; exact r.elim
  | some w' =>
    rw [hw] at r
    exact subscriptTail_builtinR da.typeIs slot_dict_getitem.lookup (wpAny_getItem_of (mixKind_str _ _ z t) da.mapOf hw ⟨rfl, ⟨w, H, I.tok _, r, q⟩⟩) hs
section
variable {K : PySem.W.Frag} {H : Hp} {kvs : List (Key × V)} {z : Str} {v : V}
/-- a dict of ours with these items -/
def dicD (kvs : List (Key × V)) : Dd := .P ⟨fun H x => ∃ a, x = .ref a ∧ H a = some (.dK kvs), by rintro H H' x e ⟨a, rfl, h⟩; exact ⟨a, rfl, e a _ h⟩⟩
theorem ro_inK : Ro K (rInK false) (.s z) (dicD kvs) (.b (valV kvs (Sum.inr z)).isSome) := by
  rintro _ _ H1 rfl ⟨p, rfl, hp⟩ Q q
  exact ⟨p, z, kvs, rfl, rfl, hp, q _ H1 (Ex.refl H1) rfl⟩
theorem ro_notInK : Ro K (rInK true) (.s z) (dicD kvs) (.b (!(valV kvs (Sum.inr z)).isSome)) := by
  rintro _ _ H1 rfl ⟨p, rfl, hp⟩ Q q
  exact ⟨p, z, kvs, rfl, rfl, hp, q _ H1 (Ex.refl H1) rfl⟩
theorem ro_ixK (hv : valV kvs (Sum.inr z) = some v) : Ro K rIxK (dicD kvs) (.s z) (.v v) := by
  rintro _ _ H1 ⟨p, rfl, hp⟩ rfl Q q
  exact ⟨p, z, kvs, v, rfl, rfl, hp, hv, q _ H1 (Ex.refl H1) rfl⟩
end
end Mi
namespace Mi
open PySem PySem.Spec PyProof.Rows L2 Evl
/-! ### a dict comprehension with different keys: what it holds -/
theorem putK_new {kvs : List (Key × V)} {k : Key} {v : V} (h : ∀ p ∈ kvs, p.1 ≠ k) : putK kvs k v = kvs ++ [(k, v)] := by
  unfold putK
  rw [if_neg]
  intro e
  obtain ⟨p, hp, hk⟩ := List.any_eq_true.mp e
  exact h p hp (of_decide_eq_true hk)
section
variable {K : PySem.W.Frag} {σ : L2.St} {G A : Hp} {te tk tv : TE} {t : TT} {wi : TI} {g : TG} {d : Dd}
theorem ef_dcC {α : Type} {its : List α} {inj : α → Dd} {vs : List Nat} (kf : α → Key) (vf : α → V) (hn : (its.map kf).Nodup) (h : Itf K wi σ G (its.map inj)) (hz : its.length ≤ 50000)
    (hs : ∀ (i : Nat) x v G' A', Ex G G' → Ex G' A' → its[i]? = some x → Is K G' (inj x) v → ∃ σ2, (∀ Q : L2.St → Hp → Prop, Q σ2 A' → g v (wipe σ vs) A' Q) ∧ wipe σ2 vs = wipe σ vs ∧ Er K tk σ2 A' (.v (kV (kf x))) ∧ Er K tv σ2 A' (.v (vf x))) :
    Ef K (tDc wi g tYes tk tv vs) σ G (dicD (its.map fun x => (kf x, vf x))) := fun G0 A0 e0 ea0 Q q =>
  h G0 A0 e0 ea0 _ fun J G1 A1 s1 hw => fun Dl hD => by
    have gD := ex_out s1.v hD
    refine ⟨fun i m A' => m = its.length - i ∧ i ≤ its.length ∧ ∃ G', Step G1 A1 G' A' ∧ G' Dl = none ∧ A' Dl = some (.dK ((its.take i).map fun x => (kf x, vf x))), ⟨_, rfl, Nat.zero_le _, G1, .on s1.v (Ex.new hD), gD, upd_same⟩, ?_⟩
    rintro i m A' ⟨rfl, hi, G', st, hg, hu⟩
    by_cases hlt : i < its.length
    · have hx : its[i]? = some its[i] := List.getElem?_eq_getElem hlt
      have hd' : (its.map inj)[i]? = some (inj its[i]) := by rw [List.getElem?_map, hx]; rfl
      obtain ⟨go, yl⟩ := (hw i G' A' st.g st.v).1 _ hd'
      refine .inr ⟨go, fun A3 => ∃ G3, Step G1 A1 G3 A3 ∧ G3 Dl = none ∧ A3 Dl = some (.dK ((its.take (i + 1)).map fun x => (kf x, vf x))), fun A3 p3 => ⟨its.length - (i + 1), by omega, rfl, hlt, p3⟩, fun v A'' y => ?_⟩
      obtain ⟨G2, s2, z⟩ := yl v A'' y
      have uN : A' Dl ≠ none := by rw [hu]; simp
      have g2 := s2.f Dl uN hg
      have u2 := s2.a Dl _ hu
      obtain ⟨σ2, hgt, hwp, htk, htv⟩ := hs i _ v G2 A'' ((e0.trans s1.g).trans (st.g.trans s2.g)) s2.v hx z
      refine hgt _ ⟨hwp, ?_⟩
      unfold tYes
      dsimp only
      rw [if_pos rfl]
      refine htk A'' (Ex.refl _) _ fun w A3 e3 zw => ?_
      refine htv A3 e3 _ fun w2 A4 e4 zw2 => ?_
      have s4 := (st.trans s2).trans (Step.on s2.v (e3.trans e4))
      refine ⟨_, kf its[i], zw, e4 Dl _ (e3 Dl _ u2), sz_lt (by rw [List.length_map, List.length_take]; omega), G2, s4.grow hD g2, g2, ?_⟩
      obtain rfl : w2 = vf its[i] := zw2
      rw [upd_same, map_take_next hx, putK_new]
      intro p hp
      obtain ⟨x, hxm, rfl⟩ := List.mem_map.mp hp
      obtain ⟨j, hj, rfl⟩ := List.getElem_of_mem hxm
      rw [List.length_take] at hj
      rw [List.getElem_take]
      have hq := List.pairwise_iff_getElem.mp hn j i (by rw [List.length_map]; omega) (by rw [List.length_map]; exact hlt) (by omega)
      rw [List.getElem_map, List.getElem_map] at hq
      exact hq
    · have e : i = its.length := by omega
      subst e
      rw [List.take_length] at hu
      refine .inl ⟨(hw _ G' A' st.g st.v).2 (by rw [List.length_map]), q _ (upd G' Dl (.dK (its.map fun x => (kf x, vf x)))) A' (s1.trans (st.seal hD hg hu)) ⟨Dl, rfl, upd_same⟩⟩
end
/-! ### a stock whose dict is known -/
def stK (sts : List (List Nat × List Nat)) : List (Key × V) := sts.map fun p => (Sum.inr (S p.1), V.str (S p.2))
theorem stK_get {sts : List (List Nat × List Nat)} {n : List Nat} : valV (stK sts) (Sum.inr (S n)) = (sts.find? fun p => decide (p.1 = n)).map fun p => V.str (S p.2) := by
  unfold valV stK
  rw [List.find?_map, Option.map_map]
  have : ((fun kv : Key × V => decide (kv.1 = Sum.inr (S n))) ∘ fun p : List Nat × List Nat => ((Sum.inr (S p.1), V.str (S p.2)) : Key × V)) = fun p : List Nat × List Nat => decide (p.1 = n) := by
    funext p
    show decide ((Sum.inr (S p.1) : Key) = Sum.inr (S n)) = decide (p.1 = n)
    by_cases h : p.1 = n
    · rw [h, decide_eq_true rfl, decide_eq_true rfl]
    · have h2 : ¬ ((Sum.inr (S p.1) : Key) = Sum.inr (S n)) := fun e => h (S_inj (Sum.inr.inj e))
      rw [decide_eq_false h, decide_eq_false h2]
  rw [this]
  rfl
def stockC (K : PySem.W.Frag) (C : Addr) (n : Int) (sts : List (List Nat × List Nat)) : Dd := .P ⟨fun H y => ∃ x dx ps dd, y = .ref x ∧ H x = some (.ins C dx (stFlds n ps dd)) ∧ Is K H (.U (prD sts)) (.ref ps) ∧ H dd = some (.dK (stK sts)), by
  rintro H H' y e ⟨x, dx, ps, dd, rfl, h1, h2, h3⟩
  exact ⟨x, dx, ps, dd, rfl, e x _ h1, h2.mono e, e dd _ h3⟩⟩
theorem stockC_D {K : PySem.W.Frag} {C : Addr} {n : Int} {sts : List (List Nat × List Nat)} {H : Hp} {v : V} (h : Is K H (stockC K C n sts) v) : Is K H (stockD K C n sts) v := by
  obtain ⟨x, dx, ps, dd, rfl, h1, h2, h3⟩ := h
  exact ⟨x, dx, ps, dd, _, rfl, h1, h2, h3⟩
theorem stFlds_dict (n : Int) (ps dd : Addr) : (stFlds n ps dd).lookup ("_stamp_of" : Str) = some (.ref dd) := by
  unfold stFlds
  rw [lookup_putF, if_pos rfl]
/-- stock._stamp_of -/
theorem er_stampOf {K : PySem.W.Frag} {σ : L2.St} {H : Hp} {te : TE} {C : Addr} {n : Int} {sts : List (List Nat × List Nat)} (cl : Cls K C) (na : NoAttr K C "_stamp_of") (h : Er K te σ H (stockC K C n sts)) : Er K (tFld K te "_stamp_of") σ H (dicD (stK sts)) := fun H1 e Q q =>
  h H1 e _ fun v H2 e2 ⟨x, dx, ps, dd, ev, h1, h2, h3⟩ => by
    subst ev
    exact ⟨x, C, dx, _, .ref dd, rfl, h1, cl, na, stFlds_dict n ps dd, q _ H2 e2 ⟨dd, rfl, h3⟩⟩
end Mi

set_option maxHeartbeats 2000000
namespace Mi
open PySem PySem.Spec PyProof.Rows L2 Evl HT

/-! ### tuple[::-1] -/
theorem fm_congr {α β : Type} {f g : α → Option β} : ∀ {l : List α}, (∀ x ∈ l, f x = g x) → l.filterMap f = l.filterMap g
  | [], _ => rfl
  | a :: l, h => by
    rw [List.filterMap_cons, List.filterMap_cons, h a (List.mem_cons_self ..), fm_congr fun x hx => h x (List.mem_cons_of_mem _ hx)]
theorem rev_pick (xs : Array Value) : ((List.range xs.size).filterMap fun (m : Nat) => xs[((xs.size : Int) - 1 + (m : Int) * (-1)).toNat]?).toArray = xs.toList.reverse.toArray := by
  have h := PySem.W.krv_pick xs
  unfold slicePick at h
  rw [PySem.W.krv_bounds] at h
  have h : ((sliceRange ((xs.size : Int) - 1) (-1) (-1)).filterMap (xs[·]?)).toArray = xs.toList.reverse.toArray := h
  rw [PySem.W.krv_sliceRange, List.filterMap_map] at h
  rw [← h]
  congr 1
  apply fm_congr
  intro m hm
  have := List.mem_range.mp hm
  have e : ((xs.size : Int) - 1 + (m : Int) * (-1)).toNat = xs.size - 1 - m := by omega
  show xs[((xs.size : Int) - 1 + (m : Int) * (-1)).toNat]? = xs[xs.size - 1 - m]?
  rw [e]
theorem rev_adj (n : Nat) : Builtin.Slice.sliceAdjust none none (-1) (n : Int) = ((n : Int) - 1, -1) := rfl
theorem rev_places (n : Nat) : Builtin.Slice.slicePlaces ((n : Int) - 1) (-1) (-1) = n := by
  unfold Builtin.Slice.slicePlaces
  rw [if_neg (by decide)]
  by_cases h : (n : Int) - 1 > -1
  · rw [if_pos h, show (- -1 : Int) = 1 by decide, Int.ediv_one]
    omega
  · rw [if_neg h]
    omega
section
variable {prog : Program} {w : World} {A : Around} {E : Value → Shared → Prop} {s : Shared}
theorem sliceApplied_rev {sl : Addr} {vl vu vs : Value} {n : Nat} {Q : Int × Int × Nat → Shared → Prop} (hs : s.heap.IsSliceOf sl vl vu vs) (pl : IsPart vl none) (pu : IsPart vu none) (ps : IsPart vs (some (-1)))
    (h : Q ((n : Int) - 1, -1, n) s) : wpAny (model prog w) A (Builtin.Slice.sliceApplied (.ref sl) (pure (n : Int))) Q E s := by
  obtain ⟨os, hos, hcs, hds⟩ := id hs
  unfold Builtin.Slice.sliceApplied Builtin.Slice.sliceFields
  refine wpAny_bind (wpAny_bind (wpAny_field hos hds (x := vl) rfl (wpAny_bind (wpAny_field hos hds (x := vu) rfl (wpAny_bind (wpAny_field hos hds (x := vs) rfl (wpAny_pure ?_)))))))
  refine wpAny_bind (slicePart_ ps ?_)
  show wpAny _ _ (if ((-1 : Int) == 0) = true then _ else _) _ _ s
  rw [if_neg (by decide)]
  refine wpAny_bind (slicePart_ pl (wpAny_bind (slicePart_ pu (wpAny_bind (wpAny_pure ?_)))))
  show wpAny _ _ (match Builtin.Slice.sliceAdjust none none (-1) (n : Int) with | (lo, hi) => pure (lo, (-1 : Int), Builtin.Slice.slicePlaces lo hi (-1))) _ _ s
  rw [rev_adj n]
  show wpAny _ _ (pure ((n : Int) - 1, (-1 : Int), Builtin.Slice.slicePlaces ((n : Int) - 1) (-1) (-1))) _ _ s
  rw [rev_places]
  exact wpAny_pure h
theorem getItem_tuple_rev {t sl : Addr} {items : Array Value} {vl vu vs : Value} {Q : Value → Shared → Prop} (ht : IsTup s.heap t items) (hs : s.heap.IsSliceOf sl vl vu vs) (pl : IsPart vl none) (pu : IsPart vu none) (ps : IsPart vs (some (-1)))
    (h : Q (.ref s.heap.objs.size) { s with heap := s.heap.push { cls := .type "tuple", data := .seq items.toList.reverse.toArray } })
    (hsz : items.size ≤ sizeLine) : wpAny (model prog w) A (getItem (.ref t) (.ref sl)) Q E s := by
  have htake : sizeOk (.seq items.toList.reverse.toArray) := by
    show items.toList.reverse.toArray.size ≤ sizeLine
    rw [List.size_toArray, List.length_reverse, Array.length_toList]
    omega
  obtain ⟨os, hos, hcs, hds⟩ := id hs
  have hTs : s.TypeIs (.ref sl) "slice" := ⟨os, hos, hcs⟩
  unfold getItem
  try with_reducible refine wpAny_holding ?_
  first | refine wpAny_bind (wpAny_pure ?_) | skip
  refine wpAny_bind (wpAny_sequenceKey ht.typeIs (by decide) ?_)
  refine wpAny_bind (wpAny_callSpecial?_slot (name := Str.ofString "__getitem__") ht.typeIs PyProof.Rows.slot_tuple_getitem
    (wpAny_call_entry PyProof.Rows.slot_tuple_getitem ht.typeIs entry_tuple_getitem ?_ (args_tuple_getitem _ _)))
  show wpAny _ _ (Builtin.Tuple.tupleItemsOf (.ref t) >>= _) _ _ s
  refine wpAny_bind (tupleItemsOf_ ht ?_)
  refine wpAny_bind (wpAny_typeOf hTs ?_)
  rw [if_pos (by decide)]
  refine wpAny_bind (sliceApplied_rev hs pl pu ps ?_)
  show wpAny _ _ (if (((items.size : Int) - 1) == 0 && (-1 : Int) == 1 && items.size == items.size) = true then _ else _) _ _ s
  rw [show (((items.size : Int) - 1) == 0 && (-1 : Int) == 1 && items.size == items.size) = false by
    rw [show ((-1 : Int) == 1) = false by decide, Bool.and_false, Bool.false_and]]
  rw [if_neg Bool.false_ne_true, rev_pick]
  first
    | exact wpAny_bind (m := Builtin.Tuple.tupleExact _) (wpAny_newObj_type (wpAny_pure ⟨_, rfl, wpAny_pure h⟩) htake)
    | exact wpAny_bind (m := Builtin.Tuple.tupleExact _) (wpAny_newObj_type (wpAny_bind (wpAny_pure (wpAny_pure ⟨_, rfl, wpAny_pure h⟩))) htake)
    | exact wpAny_bind (wpAny_bind (m := Builtin.Tuple.tupleExact _) (wpAny_newObj_type (wpAny_pure (wpAny_pure ⟨_, rfl, wpAny_pure h⟩)) htake))
    | exact wpAny_bind (wpAny_bind (m := Builtin.Tuple.tupleExact _) (wpAny_newObj_type (wpAny_pure ⟨_, rfl, wpAny_pure h⟩) htake))
end
def tRevT (K : PySem.W.Frag) (te : TE) : TE := fun σ H Q => te σ H fun x H1 => ∃ a xs, x = .ref a ∧ SqT K H1 a xs ∧ ∀ p, H1 p = none → Q (.ref p) (upd H1 p (.tup xs.reverse))
theorem pe_revT {X : Cx} {e : Expr} {te : TE} {k : Nat} {p1 p2 p3 pos : Pos} (he : PE X e te) : PE X (.Subscript e (.Slice none none (some (.UnaryOp .USub (.Constant (.int 1) k p1) p2)) p3) pos) (tRevT X.K te) := by
  refine ⟨fun pins s σ H Q I h => ?_⟩
  refine Subscript_ (thn (he.run pins s σ H _ I h) fun v s1 ⟨x, H1, I1, r1, q1⟩ => ?_)
  obtain ⟨a, xs, ex, hx, q⟩ := q1
  subst ex
  cases r1
  have hst : PO X (some (.UnaryOp .USub (.Constant (.int 1) k p1) p2)) (tPart (tUn (rU fun i => .int (-i)) (tC (.int 1)))) := po_some (pe_un un_neg pe_int)
  refine wpAny_Slice (thn (po_none.run pins s1 σ H1 (fun o H2 => o = none ∧ H2 = H1) I1 ⟨rfl, rfl⟩) fun vl s2 ⟨l, H2, I2, pl, el, e2⟩ => ?_)
  subst el e2
  refine thn (po_none.run pins s2 σ H2 (fun o H3 => o = none ∧ H3 = H2) I2 ⟨rfl, rfl⟩) fun vu s3 ⟨u, H3, I3, pu, eu, e3⟩ => ?_
  subst eu e3
  refine thn (hst.run pins s3 σ H3 (fun o H4 => o = some (-1) ∧ H4 = H3) I3 ⟨1, rfl, -1, rfl, rfl, rfl⟩) fun vs s4 ⟨o, H4, I4, ps, eo, e4⟩ => ?_
  subst eo e4
  have I5 : Inv X pins σ H4 { s4 with heap := s4.heap.push { cls := .type "slice", data := .fields #[vl, vu, vs] } } := I4.kept (t' := s4.toks) fun b ob q => Heap.get?_push_of_some _ q
  obtain ⟨its, r, ht, hz⟩ := I5.tuple hx
  have hlen := r.length
  show wpAny (model X.prog X.w) X.A (subscriptTail e (.Slice none none (some (.UnaryOp .USub (.Constant (.int 1) k p1) p2)) p3) (.ref a) (.ref s4.heap.objs.size)) (EP X pins σ Q) X.xe { s4 with heap := s4.heap.push { cls := .type "slice", data := .fields #[vl, vu, vs] } }
  refine tail_any (ops := [.ref a, .ref s4.heap.objs.size]) ht.typeIs (PyProof.Rows.slot_tuple_getitem.lookup) ?_ (by with_unfolding_all rfl)
  refine getItem_tuple_rev ht (Heap.IsSliceOf.new _ vl vu vs) pl pu ps ?_ (by rw [List.size_toArray]; omega)
  refine ⟨.ref _, _, I5.laid (t' := s4.toks) (o := .tup xs.reverse) (fun b ob q => Heap.get?_push_of_some _ q) (Nat.le_refl _) ?_, rfl, q _ (I5.hok.fresh (Nat.le_refl _))⟩
  exact ⟨by rw [List.length_reverse]; exact hz, _, r.reverse, IsTup.new _ _⟩
/-! ### text[::-1] -/
theorem pick_all (x : Array Nat) : (List.range x.size).filterMap (x[·]?) = x.toList := by
  have h1 : (List.range x.size).filterMap (x[·]?) = (List.range x.size).filterMap (some ∘ fun i => x.getD i 0) := by
    apply fm_congr
    intro i hi
    have := List.mem_range.mp hi
    show x[i]? = some (x.getD i 0)
    rw [Array.getElem?_eq_getElem this, Array.getD_eq_getD_getElem?, Array.getElem?_eq_getElem this]
    rfl
  rw [h1, List.filterMap_eq_map]
  apply List.ext_getElem
  · simp
  · intro i h2 h3
    have h4 : i < x.size := by simpa using h3
    simp [h4]
theorem rev_text (x : Str) : ((Builtin.Str.strSliceIndices none none (-1) x.length).filterMap (x.cps[·]?)).toArray = x.cps.toList.reverse.toArray := by
  have h : ((sliceRange ((x.cps.size : Int) - 1) (-1) (-1)).filterMap (x.cps[·]?)).toArray = x.cps.toList.reverse.toArray := by
    rw [PySem.W.krv_sliceRange, PySem.W.krv_range, List.filterMap_reverse, pick_all]
  exact h
def tRevS (te : TE) : TE := fun σ H Q => te σ H fun x H1 => ∃ z, x = .str z ∧ z.length ≤ sizeLine ∧ Q (.str ⟨z.cps.toList.reverse.toArray⟩) H1
theorem pe_revS {X : Cx} {e : Expr} {te : TE} {k : Nat} {p1 p2 p3 pos : Pos} (he : PE X e te) : PE X (.Subscript e (.Slice none none (some (.UnaryOp .USub (.Constant (.int 1) k p1) p2)) p3) pos) (tRevS te) := by
  refine ⟨fun pins s σ H Q I h => ?_⟩
  refine Subscript_ (thn (he.run pins s σ H _ I h) fun v s1 ⟨x, H1, I1, r1, q1⟩ => ?_)
  obtain ⟨z, ex, hz, q⟩ := q1
  subst ex
  obtain ⟨t, rfl⟩ := r1
  have hst : PO X (some (.UnaryOp .USub (.Constant (.int 1) k p1) p2)) (tPart (tUn (rU fun i => .int (-i)) (tC (.int 1)))) := po_some (pe_un un_neg pe_int)
  refine wpAny_Slice (thn (po_none.run pins s1 σ H1 (fun o H2 => o = none ∧ H2 = H1) I1 ⟨rfl, rfl⟩) fun vl s2 ⟨l, H2, I2, pl, el, e2⟩ => ?_)
  subst el e2
  refine thn (po_none.run pins s2 σ H2 (fun o H3 => o = none ∧ H3 = H2) I2 ⟨rfl, rfl⟩) fun vu s3 ⟨u, H3, I3, pu, eu, e3⟩ => ?_
  subst eu e3
  refine thn (hst.run pins s3 σ H3 (fun o H4 => o = some (-1) ∧ H4 = H3) I3 ⟨1, rfl, -1, rfl, rfl, rfl⟩) fun vs s4 ⟨o, H4, I4, ps, eo, e4⟩ => ?_
  subst eo e4
  have I5 : Inv X pins σ H4 { s4 with heap := s4.heap.push { cls := .type "slice", data := .fields #[vl, vu, vs] } } := I4.kept (t' := s4.toks) fun b ob q => Heap.get?_push_of_some _ q
  obtain ⟨l, rfl, hl⟩ := IsPart.raw pl
  obtain ⟨u, rfl, hu⟩ := IsPart.raw pu
  obtain ⟨st, rfl, hst2⟩ := IsPart.raw ps
  show wpAny (model X.prog X.w) X.A (subscriptTail e (.Slice none none (some (.UnaryOp .USub (.Constant (.int 1) k p1) p2)) p3) (.str z t) (.ref s4.heap.objs.size)) (EP X pins σ Q) X.xe { s4 with heap := s4.heap.push { cls := .type "slice", data := .fields #[partValue l, partValue u, partValue st] } }
  refine tail_any (ops := [.str z t, .ref s4.heap.objs.size]) (typeIs_str _ _ _) F.slot_str_getitem.lookup ?_ (by with_unfolding_all rfl)
  obtain ⟨os, hos, hcs, hds⟩ := Heap.IsSliceOf.new s4.heap (partValue l) (partValue u) (partValue st)
  refine wpAny_getItem_str_slice (l := l) (u := u) (st := st) ⟨os, hos, hcs, hds⟩ (by rw [hst2]; rfl) ?_
  unfold sliceMade slicePicked
  rw [hl, hu, hst2]
  show Made.post (if ((-1 : Int) == 1 && (Builtin.Str.strSliceIndices none none (-1) z.length).length == z.length) = true then Made.val (.str z t) else Made.str ⟨((Builtin.Str.strSliceIndices none none (-1) z.length).filterMap (z.cps[·]?)).toArray⟩) (EP X pins σ Q) _
  rw [show ((-1 : Int) == 1 && (Builtin.Str.strSliceIndices none none (-1) z.length).length == z.length) = false by rw [show ((-1 : Int) == 1) = false by decide, Bool.false_and], if_neg Bool.false_ne_true, rev_text]
  refine ⟨?_, .str _, H4, I5.tok _, ⟨_, rfl⟩, q⟩
  show z.cps.toList.reverse.toArray.size ≤ sizeLine
  rw [List.size_toArray, List.length_reverse, Array.length_toList]
  exact hz
section
variable {K : PySem.W.Frag} {σ : L2.St} {G H : Hp} {te : TE}
theorem er_revS {l : List Nat} (h : Er K te σ H (.s (S l))) (hz : l.length ≤ 100000) : Er K (tRevS te) σ H (.s (S l.reverse)) := fun H1 e1 Q q =>
  h H1 e1 _ fun v H2 e2 z => ⟨S l, z, sz_of hz, q _ H2 e2 (by show V.str _ = V.str _; congr 1)⟩
end
section
variable {K : PySem.W.Frag} {σ : L2.St} {G H : Hp} {te : TE} {ds : List Dd} {xs : List V}
theorem isE_rev : ∀ {ds : List Dd} {vs : List V}, IsE K H ds vs → IsE K H ds.reverse vs.reverse
  | [], vs, h => by
    have : vs = [] := h
    subst this
    exact rfl
  | d :: ds, vs, ⟨x, r, e, h1, h2⟩ => by
    subst e
    rw [List.reverse_cons, List.reverse_cons]
    exact isE_app (isE_rev h2) ⟨x, [], rfl, h1, rfl⟩
theorem ef_revT (h : Ef K te σ G (.U ds)) : Ef K (tRevT K te) σ G (.U ds.reverse) := fun G1 A e1 e2 Q q =>
  h G1 A e1 e2 _ fun v G2 A2 s2 ⟨p, vs, ev, hp, hE⟩ => ⟨p, vs, ev, ex_t s2.v hp, fun l hl => q _ (upd G2 l (.tup vs.reverse)) _ (s2.trans (Step.new s2.v hl)) ⟨l, vs.reverse, rfl, st_of upd_same, IsE.mono (Ex.new (ex_out s2.v hl)) (isE_rev hE)⟩⟩
theorem er_revL {xs : List V} (h : Er K te σ H (.l xs)) : Er K (tRevL K te) σ H (.n xs.reverse) := fun H1 e1 Q q =>
  h H1 e1 _ fun v H2 e2 ⟨p, ev, hp⟩ => ⟨p, xs, ev, hp, fun l hl => q _ _ (e2.trans (Ex.new hl)) ⟨l, rfl, upd_same⟩⟩
end
theorem pe_revT_k {X : Cx} {K : PySem.W.Frag} {e : Expr} {te : TE} {k : Nat} {p1 p2 p3 pos : Pos} (he : PE X e te) (hK : X.K = K := by rfl) : PE X (.Subscript e (.Slice none none (some (.UnaryOp .USub (.Constant (.int 1) k p1) p2)) p3) pos) (tRevT K te) := hK ▸ pe_revT he
theorem pe_revL_k {X : Cx} {K : PySem.W.Frag} {e : Expr} {te : TE} {k : Nat} {p1 p2 p3 pos : Pos} (he : PE X e te) (hK : X.K = K := by rfl) : PE X (.Subscript e (.Slice none none (some (.UnaryOp .USub (.Constant (.int 1) k p1) p2)) p3) pos) (tRevL K te) := hK ▸ pe_revL he
end Mi

set_option maxHeartbeats 2000000
namespace Mi
open PySem PySem.Spec PyProof.Rows L2 Evl
/-! ### all parameters by name, in the other order -/
structure AtW (K : PySem.W.Frag) (mg : Str → Option Value) (x : Str) (st : Stmt) (ps : List Str) : Prop where
  ex : ∃ f fd, mg x = some (.ref f) ∧ Fun K x x st f fd ∧ ∀ (s : Shared) (ws : List Value), ws.length = ps.length → BindsTo s fd ⟨[], ps.reverse.zip ws⟩ (ps.zip ws.reverse)
structure HasW (P : Program) (w : World) (K : PySem.W.Frag) (mg : Str → Option Value) (base : Heap) (k : Nat) (x : Str) (ps : List Str) (sp : Sp) : Prop where
  ex : ∃ f fd, mg x = some (.ref f) ∧ PySem.W.keepIn K (.ref f) = true ∧ FnOk P w K mg base CX0 k f fd ps sp ∧ ∀ (s : Shared) (ws : List Value), ws.length = ps.length → BindsTo s fd ⟨[], ps.reverse.zip ws⟩ (ps.zip ws.reverse)
theorem Fun.okR {P : Program} {w : World} {K : PySem.W.Frag} {mg : Str → Option Value} {base : Heap} {x : Str} {st : Stmt} {f : Addr} {fd : FuncData} {N ps : List Str} {k : Nat} {T : Type} {pre : T → Prop} {args : T → List Dd} {ret : T → Dd}
    (F : Fun K x x st f fd) (Sc : FnScope N ps (defScope st)) (hl : ∀ a, (args a).length = ps.length)
    (hbody : ∀ (cdv : Value) (A : Around) (outer : List Env) (s : Shared) (H : Hp) (a : T) (vs : List V) (Q : VK) (E : XK), Room k (A.deeper (envOfC x (defScope st) s.heap.objs.size f cdv)) → pre a → IsAll K H (args a) vs →
      (∀ v H', Ex H H' → Is K H' (ret a) v → Q v H') →
      ∃ t, PSs (cxOf CX0 P w K mg base N x (defScope st) f cdv A outer s H E).nox (defBody st) t ∧ t { nx := fun _ H' => Q .non H', rt := Q } (start N vs) H) :
    FnOk P w K mg base CX0 (k + 1) f fd ps (spR K pre args ret) := by
  refine F.ok Sc (fun vs H Q E hsp => ?_) (fun cdv A outer s H vs Q E hr hsp => ?_)
  · obtain ⟨a, _, hv, _⟩ := hsp
    rw [← hv.len, hl]
  · obtain ⟨a, hp, hv, hk⟩ := hsp
    exact hbody cdv A outer s H a vs Q E hr hp hv hk
theorem Fun.okF {P : Program} {w : World} {K : PySem.W.Frag} {mg : Str → Option Value} {base : Heap} {x : Str} {st : Stmt} {f : Addr} {fd : FuncData} {N ps : List Str} {k : Nat} {T : Type} {pre : T → Prop} {args : T → List Dd} {ret : T → Dd}
    (F : Fun K x x st f fd) (Sc : FnScope N ps (defScope st)) (hl : ∀ a, (args a).length = ps.length)
    (hbody : ∀ (cdv : Value) (Ar : Around) (outer : List Env) (s : Shared) (G A : Hp) (a : T) (vs : List V) (Q : VK) (E : XK), Room k (Ar.deeper (envOfC x (defScope st) s.heap.objs.size f cdv)) → pre a → Ex G A → IsAll K G (args a) vs →
      (∀ v G' A', Step G A G' A' → Is K G' (ret a) v → Q v A') →
      ∃ t, PSs (cxOf CX0 P w K mg base N x (defScope st) f cdv Ar outer s A E).nox (defBody st) t ∧ t { nx := fun _ A' => Q .non A', rt := Q } (start N vs) A) :
    FnOk P w K mg base CX0 (k + 1) f fd ps (spF K pre args ret) := by
  refine F.ok Sc (fun vs H Q E hsp => ?_) (fun cdv Ar outer s A vs Q E hr hsp => ?_)
  · obtain ⟨a, _, G, _, hv, _⟩ := hsp
    rw [← hv.len, hl]
  · obtain ⟨a, hp, G, hA, hv, hk⟩ := hsp
    exact hbody cdv Ar outer s G A a vs Q E hr hp hA hv hk
theorem At.has {P : Program} {w : World} {K : PySem.W.Frag} {mg : Str → Option Value} {base : Heap} {x : Str} {st : Stmt} {ps : List Str} {k : Nat} {sp : Sp} (h : At K mg x st ps) (hf : ∀ {f fd}, Fun K x x st f fd → FnOk P w K mg base CX0 k f fd ps sp) : Has P w K mg base k x ps sp := by
  obtain ⟨f, fd, hm, F, b0, b1, b2⟩ := h.ex
  exact ⟨f, fd, hm, F.kp, hf F, b0, b1, b2⟩
theorem AtW.has {P : Program} {w : World} {K : PySem.W.Frag} {mg : Str → Option Value} {base : Heap} {x : Str} {st : Stmt} {ps : List Str} {k : Nat} {sp : Sp} (h : AtW K mg x st ps) (hf : ∀ {f fd}, Fun K x x st f fd → FnOk P w K mg base CX0 k f fd ps sp) : HasW P w K mg base k x ps sp := by
  obtain ⟨f, fd, hm, F, b⟩ := h.ex
  exact ⟨f, fd, hm, F.kp, hf F, b⟩
theorem pe_bm0_k {X : Cx} {K : PySem.W.Frag} {o : Expr} {to : TE} {name : Str} {apos cpos : Pos} {T id : String} {r : V → List V → Hp → VK → Prop} (pa : PlainAttrs T) (slot : Slot T name id) (hty : typeOf (.builtin id) = pure (.type "method_descriptor")) (hm : MtR X id r) (ho : PE X o to)
    (hK : X.K = K := by rfl) (hbase : attributeBase o name X.env (eval o X.env) = eval o X.env := by rfl) (hline : (apos.endLine == cpos.line) = true := by rfl) : PE X (.Call (.Attribute o name apos) [] [] cpos) (tBM0 K T r to) := hK ▸ pe_bm0 pa slot hty hm ho hbase hline
def tCallW (sp : Sp) (t : TA) : TE := fun σ H Q => t σ H fun vs H2 => sp vs.reverse H2 Q E0
theorem pe_callW {X : Cx} {k : Nat} {ps : List Str} {sp : Sp} {x : Str} {p pos : Pos} {kws : List Keyword} {t : TA} (F : HasW X.prog X.w X.K X.mg X.base k x ps sp) (hr : Room k X.A) (hkw : PK X kws t) (hg : Gl X x := by rfl) (hdb : (x == ("__debug__" : Str)) = false := by decide)
    (hall : (backToKw pos (keywordEach kws X.env)).all (·.1.isSome) = true := by rfl)
    (hks : (backToKw pos (keywordEach kws X.env)).filterMap (·.1) = ps.reverse := by rfl)
    (hpl : (backToKw pos (keywordEach kws X.env)).any (·.1.isNone) = false := by rfl) :
    PE X (.Call (.Name x p) [] kws pos) (tCallW sp t) := by
  obtain ⟨f, fd, hm, hk, F, hb⟩ := F.ex
  refine ⟨fun pins s σ H Q I h => ?_⟩
  refine wpAny_Call_Name_kw (ld_glob I hg hm ?_ hdb)
  refine PySem.W.callWith_KW0 (h₀ := X.base) I.ok.mod.kin hk hall (thn (hkw.run pos pins s σ H _ I h) fun ws s2 ⟨zs, H2, I2, rz, q2⟩ => ⟨I2.kIn, ?_⟩) hpl
  rw [hks]
  have hl := F.len _ _ _ _ q2
  rw [List.length_reverse] at hl
  have hw : ws.length = ps.length := by rw [← rz.length]; exact hl
  refine wpAny_call (codeAny_mono (F.run X.A X.stack s2 H2 ⟨[], ps.reverse.zip ws⟩ ws.reverse zs.reverse Q E0 hr I2.env0 (hb s2 ws hw) rz.reverse q2) fun r s' hq => ?_)
  cases r with
  | error e => exact pass0 pins σ H2 s2 e s' I2 hq
  | ok fl =>
    cases fl with
    | ret u => exact I2.after hq
    | next => exact False.elim hq
    | brk => exact False.elim hq
    | cont => exact False.elim hq
section
variable {K : PySem.W.Frag} {σ : L2.St} {G H : Hp} {te : TE} {tr : TA} {d : Dd} {ds : List Dd} {D : Ends} {tz : TS}
theorem isAll_app : ∀ {as bs : List Dd} {us vs : List V}, IsAll K H as us → IsAll K H bs vs → IsAll K H (as ++ bs) (us ++ vs)
  | _, _, _, _, .nil, b => b
  | _, _, _, _, .cons a r, b => .cons a (isAll_app r b)
theorem isAll_rev : ∀ {ds : List Dd} {vs : List V}, IsAll K H ds vs → IsAll K H ds.reverse vs.reverse
  | _, _, .nil => .nil
  | _, _, .cons a r => by
    rw [List.reverse_cons, List.reverse_cons]
    exact isAll_app (isAll_rev r) (.cons a .nil)
theorem er_callW {T : Type} {pre : T → Prop} {args : T → List Dd} {ret : T → Dd} (a : T) (h : Era K tr σ H ds) (hd : ds.reverse = args a) (hp : pre a) : Er K (tCallW (spR K pre args ret) tr) σ H (ret a) := fun H1 e Q q =>
  h H1 e _ fun vs H2 e2 z => ⟨a, hp, hd ▸ isAll_rev z, fun v H' e3 hv => q v H' (e2.trans e3) hv⟩
theorem er_callWF {T : Type} {pre : T → Prop} {args : T → List Dd} {ret : T → Dd} (a : T) (h : Era K tr σ H ds) (hd : ds.reverse = args a) (hp : pre a) : Er K (tCallW (spF K pre args ret) tr) σ H (ret a) := fun H1 e Q q =>
  h H1 e _ fun vs H2 e2 z => ⟨a, hp, H2, Ex.refl _, hd ▸ isAll_rev z, fun v G' A' s hv => q v A' (e2.trans s.a) (hv.mono s.v)⟩
/-! ### isinstance of an object of ours -/
theorem kit_own {C : Addr} : PySem.W.kitOne K (.ref C) (.ref C) = some true := by
  unfold PySem.W.kitOne
  rw [if_pos (by simp)]
theorem rc_isiO {C : Addr} (O : ObTy K C) (ht : ∀ H1 v, Is K H1 d v → ∃ a dx fs, v = .ref a ∧ H1 a = some (.ins C dx fs)) : Rc K (rIsi K) [d, .v (.ref C)] (.b true) := fun vs H1 h Q q => by
  rcases h with _ | ⟨h1, _ | ⟨h2, _ | _⟩⟩
  rename_i v u
  obtain ⟨a, dx, fs, rfl, hx⟩ := ht H1 v h1
  obtain rfl : u = V.ref C := h2
  exact ⟨_, _, _, _, true, rfl, .own C, .base (.ins hx O.cl O.fc O.sp O.tk O.mr), kit_own, q _ H1 (Ex.refl _) rfl⟩
/-! ### != of tuples -/
theorem ro_neU {ns ms : List Int} : Ro K (rNeD K) (.u (vis ns)) (.u (vis ms)) (.v (.bl (!decide (ns = ms)))) := by
  rintro _ _ H1 ⟨p, rfl, hp⟩ ⟨p', rfl, hp'⟩ Q q
  refine ⟨_, _, .tup hp (dpAll_ints ns), .tup hp' (dpAll_ints ms), shaped_tup ns, shaped_tup ms, q _ H1 (Ex.refl H1) ?_⟩
  show V.bl (!PyData.eqvAll _ _) = _
  rw [eqv_ints]
/-! ### xs.clear(), xs.extend(ys) -/
theorem s_clear {l : Addr} {xs : List V} (hl : H l = some (.lst xs)) (ha : Er K te σ H (.v (.ref l))) (k : ∀ H1, Ex H H1 → tz D σ (upd H1 l (.lst []))) : tSeq (tDrop (tBM0 K "list" rClear te)) tz D σ H :=
  ha H (Ex.refl _) _ fun v H1 e z => by
    obtain rfl : v = V.ref l := z
    exact ⟨Or.inl ⟨rfl, xs, sq_of (e l _ hl)⟩, l, xs, rfl, rfl, e l _ hl, k H1 e⟩
theorem s_extend {l : Addr} {xs zs : List V} (hl : H l = some (.lst xs)) (ha : Er K te σ H (.v (.ref l))) (h : Era K tr σ H [.n zs]) (hz : xs.length + zs.length ≤ 100000) (k : ∀ H1, Ex H H1 → tz D σ (upd H1 l (.lst (xs ++ zs)))) : tSeq (tDrop (tBM K "list" rExtend te tr)) tz D σ H :=
  ha H (Ex.refl _) _ fun v H1 e z => by
    obtain rfl : v = V.ref l := z
    refine ⟨Or.inl ⟨rfl, xs, sq_of (e l _ hl)⟩, h H1 e _ fun vs H2 e2 z2 => ?_⟩
    rcases z2 with _ | ⟨⟨p, rfl, hp⟩, _ | _⟩
    exact ⟨l, p, xs, zs, rfl, rfl, e2 l _ (e l _ hl), hp, sz_of hz, k H2 (e.trans e2)⟩
end
end Mi

set_option maxHeartbeats 2000000
namespace Mi
open PySem PySem.Spec PyProof.Rows L2 Evl
/-! ### the mathematics of peeling all layers at once -/
abbrev Lay := List Nat
def okQ (p : Nat × Nat) : Bool := p.1 == p.2 || (p.1 == 45 || p.2 == 45)
def agQ (a b : Lay) : Bool := (a.zip b).all okQ
def frQ (a b : Lay) : Lay := (a.zip b).map fun p => if p.2 = 45 then p.1 else 45
def prQ (a b : Lay) : Lay := (a.zip b).map fun p => if p.2 = 45 then p.1 else p.2
theorem frQ_len {a b : Lay} (h : a.length = b.length) : (frQ a b).length = a.length := by
  unfold frQ
  rw [List.length_map, List.length_zip]
  omega
theorem prQ_len {a b : Lay} (h : a.length = b.length) : (prQ a b).length = a.length := by
  unfold prQ
  rw [List.length_map, List.length_zip]
  omega
theorem agQ_iff : ∀ {a b : Lay}, a.length = b.length → (agQ a b = true ↔ ∀ c, c < a.length → (a.getD c 0 = b.getD c 0 ∨ a.getD c 0 = 45 ∨ b.getD c 0 = 45))
  | [], [], _ => by simp [agQ]
  | x :: a, y :: b, h => by
    have ih := agQ_iff (a := a) (b := b) (by simpa using h)
    unfold agQ at ih ⊢
    rw [List.zip_cons_cons, List.all_cons, Bool.and_eq_true, ih]
    unfold okQ
    constructor
    · rintro ⟨h1, h2⟩ c hc
      cases c with
      | zero => simpa using h1
      | succ c => exact h2 c (by simpa using hc)
    · intro h2
      refine ⟨by simpa using h2 0 (by simp), fun c hc => h2 (c + 1) (by simpa using hc)⟩
theorem frQ_at {a b : Lay} (h : a.length = b.length) {c : Nat} (hc : c < a.length) : (frQ a b).getD c 0 = if b.getD c 0 = 45 then a.getD c 0 else 45 := by
  have h1 : a[c]? = some a[c] := List.getElem?_eq_getElem hc
  have h2 : b[c]? = some b[c] := List.getElem?_eq_getElem (by omega)
  have hz : (a.zip b)[c]? = some (a[c], b[c]) := List.getElem?_zip_eq_some (z := (a[c], b[c])) |>.mpr ⟨h1, h2⟩
  unfold frQ
  rw [List.getD_eq_getElem?_getD, List.getD_eq_getElem?_getD, List.getD_eq_getElem?_getD, List.getElem?_map, hz, h1, h2]
  rfl
theorem prQ_at {a b : Lay} (h : a.length = b.length) {c : Nat} (hc : c < a.length) : (prQ a b).getD c 0 = if b.getD c 0 = 45 then a.getD c 0 else b.getD c 0 := by
  have h1 : a[c]? = some a[c] := List.getElem?_eq_getElem hc
  have h2 : b[c]? = some b[c] := List.getElem?_eq_getElem (by omega)
  have hz : (a.zip b)[c]? = some (a[c], b[c]) := List.getElem?_zip_eq_some (z := (a[c], b[c])) |>.mpr ⟨h1, h2⟩
  unfold prQ
  rw [List.getD_eq_getElem?_getD, List.getD_eq_getElem?_getD, List.getD_eq_getElem?_getD, List.getElem?_map, hz, h1, h2]
  rfl
theorem lay_ext {a b : Lay} (h : a.length = b.length) (he : ∀ c, c < a.length → a.getD c 0 = b.getD c 0) : a = b := by
  apply List.ext_getElem h
  intro i h1 h2
  have := he i h1
  rw [List.getD_eq_getElem?_getD, List.getD_eq_getElem?_getD, List.getElem?_eq_getElem h1, List.getElem?_eq_getElem h2] at this
  exact this
theorem frQ_comm {a b c : Lay} (h1 : a.length = b.length) (h2 : a.length = c.length) : frQ (frQ a b) c = frQ (frQ a c) b := by
  have l1 := frQ_len h1
  have l2 := frQ_len h2
  have l3 := frQ_len (a := frQ a b) (b := c) (by omega)
  have l4 := frQ_len (a := frQ a c) (b := b) (by omega)
  refine lay_ext (by omega) fun i hi => ?_
  rw [frQ_at (by omega) (by omega), frQ_at (by omega) (by omega), frQ_at (by omega) (by omega), frQ_at (by omega) (by omega)]
  split <;> split <;> rfl
theorem agQ_free {a b t : Lay} (h1 : a.length = b.length) (h2 : a.length = t.length) (h : agQ a t = true) : agQ (frQ a b) t = true := by
  have l1 := frQ_len h1
  rw [agQ_iff (by omega)] at h ⊢
  intro c hc
  rw [frQ_at h1 (by omega)]
  by_cases hb : b.getD c 0 = 45
  · rw [if_pos hb]
    exact h c (by omega)
  · rw [if_neg hb]
    exact .inr (.inl rfl)
/-- a press over what fits: the stamp agrees, and what lay there fits what is left -/
theorem agQ_press {x t y : Lay} (h1 : x.length = t.length) (h2 : x.length = y.length) : agQ (prQ x t) y = true ↔ agQ y t = true ∧ agQ x (frQ y t) = true := by
  have l1 := prQ_len h1
  have l2 := frQ_len (a := y) (b := t) (by omega)
  rw [agQ_iff (by omega), agQ_iff (by omega), agQ_iff (by omega)]
  constructor
  · intro h
    refine ⟨fun c hc => ?_, fun c hc => ?_⟩
    · have q := h c (by omega)
      rw [prQ_at h1 (by omega)] at q
      by_cases ht : t.getD c 0 = 45
      · exact .inr (.inr ht)
      · rw [if_neg ht] at q
        rcases q with q | q | q
        · exact .inl q.symm
        · exact absurd q ht
        · exact .inr (.inl q)
    · have q := h c (by omega)
      rw [prQ_at h1 (by omega)] at q
      rw [frQ_at (by omega) (by omega)]
      by_cases ht : t.getD c 0 = 45
      · rw [if_pos ht] at q ⊢
        exact q
      · rw [if_neg ht]
        exact .inr (.inr rfl)
  · rintro ⟨ha, hb⟩ c hc
    have q1 := ha c (by omega)
    have q2 := hb c (by omega)
    rw [frQ_at (by omega) (by omega)] at q2
    rw [prQ_at h1 (by omega)]
    by_cases ht : t.getD c 0 = 45
    · rw [if_pos ht] at q2 ⊢
      exact q2
    · rw [if_neg ht]
      rcases q1 with q | q | q
      · exact .inl q.symm
      · exact .inr (.inr q)
      · exact absurd q ht
theorem prQ_assoc {x n t : Lay} (h1 : x.length = n.length) (h2 : x.length = t.length) : prQ x (prQ n t) = prQ (prQ x n) t := by
  have l1 := prQ_len h1
  have l2 := prQ_len (a := n) (b := t) (by omega)
  have l3 := prQ_len (a := x) (b := prQ n t) (by omega)
  have l4 := prQ_len (a := prQ x n) (b := t) (by omega)
  refine lay_ext (by omega) fun c hc => ?_
  rw [prQ_at (by omega) (by omega), prQ_at (by omega) (by omega), prQ_at (by omega) (by omega), prQ_at (by omega) (by omega)]
  by_cases ht : t.getD c 0 = 45
  · rw [if_pos ht, if_pos ht]
  · rw [if_neg ht, if_neg ht, if_neg ht]
/-! ### stamps by name, layers of one size -/
section
variable {N : Type} [DecidableEq N] (st : N → Lay) (size : Nat)
def agA (ls : List Lay) (n : N) : Bool := ls.all fun l => agQ l (st n)
def plA (ls : List Lay) (n : N) : List Lay := ls.map fun l => frQ l (st n)
def Siz (ls : List Lay) : Prop := ∀ l ∈ ls, l.length = size
variable {st size}
theorem plA_siz {ls : List Lay} {n : N} (h : Siz size ls) (hn : (st n).length = size) : Siz size (plA st ls n) := by
  intro l hl
  obtain ⟨x, hx, rfl⟩ := List.mem_map.mp hl
  have := h x hx
  rw [frQ_len (by omega)]
  exact this
theorem plA_comm {ls : List Lay} {n m : N} (h : Siz size ls) (hn : (st n).length = size) (hm : (st m).length = size) : plA st (plA st ls n) m = plA st (plA st ls m) n := by
  unfold plA
  rw [List.map_map, List.map_map]
  apply List.map_congr_left
  intro l hl
  have := h l hl
  exact frQ_comm (by omega) (by omega)
theorem agA_more {ls : List Lay} {n m : N} (h : Siz size ls) (hn : (st n).length = size) (hm : (st m).length = size) (ha : agA st ls m = true) : agA st (plA st ls n) m = true := by
  unfold agA at ha ⊢
  rw [List.all_eq_true] at ha ⊢
  intro l hl
  obtain ⟨x, hx, rfl⟩ := List.mem_map.mp hl
  have := h x hx
  exact agQ_free (by omega) (by omega) (ha x hx)
variable (st)
def PlS : List Lay → List N → Prop
  | _, [] => True
  | ls, n :: r => agA st ls n = true ∧ PlS (plA st ls n) r
def plL (ls : List Lay) (q : List N) : List Lay := q.foldl (plA st) ls
variable {st}
theorem PlS.more {n : N} (hn : (st n).length = size) : ∀ {q : List N} {ls : List Lay}, Siz size ls → (∀ m ∈ q, (st m).length = size) → PlS st ls q → PlS st (plA st ls n) q
  | [], _, _, _, _ => trivial
  | m :: r, ls, h, hq, hp => by
    have hm := hq m (List.mem_cons_self ..)
    refine ⟨agA_more h hn hm hp.1, ?_⟩
    rw [plA_comm h hn hm]
    exact PlS.more hn (plA_siz h hm) (fun x hx => hq x (List.mem_cons_of_mem _ hx)) hp.2
/-- a stamp may be peeled off earlier -/
theorem PlS.erase {n : N} (hn : (st n).length = size) : ∀ {q : List N} {ls : List Lay}, Siz size ls → (∀ m ∈ q, (st m).length = size) → PlS st ls q → PlS st (plA st ls n) (q.erase n)
  | [], _, _, _, _ => trivial
  | m :: r, ls, h, hq, hp => by
    have hm := hq m (List.mem_cons_self ..)
    have hr : ∀ x ∈ r, (st x).length = size := fun x hx => hq x (List.mem_cons_of_mem _ hx)
    by_cases e : m = n
    · subst e
      rw [List.erase_cons_head]
      exact hp.2
    · rw [List.erase_cons_tail (by simpa using e)]
      refine ⟨agA_more h hn hm hp.1, ?_⟩
      rw [plA_comm h hn hm]
      exact PlS.erase hn (plA_siz h hm) hr hp.2
theorem plL_siz : ∀ {q : List N} {ls : List Lay}, Siz size ls → (∀ m ∈ q, (st m).length = size) → Siz size (plL st ls q)
  | [], _, h, _ => h
  | m :: r, ls, h, hq => plL_siz (q := r) (plA_siz h (hq m (List.mem_cons_self ..))) fun x hx => hq x (List.mem_cons_of_mem _ hx)
/-- where p leaves all of S stuck, every peeling within S stays within p -/
theorem within : ∀ {p q : List N} {ls : List Lay} {S : N → Prop}, Siz size ls → (∀ n ∈ p, (st n).length = size) → (∀ n ∈ q, (st n).length = size) → q.Nodup → (∀ n ∈ q, S n) → (∀ n, S n → n ∉ p → agA st (plL st ls p) n = false) → PlS st ls q → ∀ n ∈ q, n ∈ p
  | [], q, ls, S, h, _, _, _, hq, hst, hp, n, hn => by
    cases q with
    | nil => cases hn
    | cons m r =>
      have z : agA st ls m = false := hst m (hq m (List.mem_cons_self ..)) (by simp)
      rw [hp.1] at z
      cases z
  | m :: p, q, ls, S, h, hps, hqs, hqn, hq, hst, hp, n, hn => by
    have hm := hps m (List.mem_cons_self ..)
    by_cases e : n = m
    · rw [e]
      exact List.mem_cons_self ..
    · have key := within (p := p) (q := q.erase m) (ls := plA st ls m) (S := fun n => S n ∧ n ≠ m) (plA_siz h hm) (fun x hx => hps x (List.mem_cons_of_mem _ hx)) (fun x hx => hqs x (List.mem_of_mem_erase hx)) (hqn.erase m) (fun x hx => ⟨hq x (List.mem_of_mem_erase hx), fun z => by
        rw [z] at hx
        exact ((List.Nodup.mem_erase_iff hqn).mp hx).1 rfl⟩) (fun x hx hxp => hst x hx.1 fun z => (List.mem_cons.mp z).elim hx.2 hxp) (PlS.erase hm h hqs hp)
      exact List.mem_cons_of_mem _ (key n ((List.mem_erase_of_ne e).mpr hn))
/-- two peelings of ns that leave it stuck peel off the same stamps -/
theorem same_peel {ns p q : List N} {ls : List Lay} (h : Siz size ls) (hs : ∀ n ∈ ns, (st n).length = size) (hp : ∀ n ∈ p, n ∈ ns) (hq : ∀ n ∈ q, n ∈ ns) (np : p.Nodup) (nq : q.Nodup) (pp : PlS st ls p) (pq : PlS st ls q)
    (sp : ∀ n ∈ ns, n ∉ p → agA st (plL st ls p) n = false) (sq : ∀ n ∈ ns, n ∉ q → agA st (plL st ls q) n = false) : ∀ n, n ∈ p ↔ n ∈ q := fun n =>
  ⟨within (S := fun n => n ∈ ns) h (fun x hx => hs x (hq x hx)) (fun x hx => hs x (hp x hx)) np hp sq pp n, within (S := fun n => n ∈ ns) h (fun x hx => hs x (hp x hx)) (fun x hx => hs x (hq x hx)) nq hq sp pq n⟩
/-! ### the program's way: the first that agrees -/
variable (st)
def stuckG : Nat → List Lay → List N → List N
  | 0, _, ns => ns
  | k + 1, ls, ns => match ns.find? (agA st ls) with
    | none => ns
    | some n => stuckG k (plA st ls n) (ns.filter fun m => !decide (m = n))
variable {st}
theorem stuckG_is : ∀ {k : Nat} {ls : List Lay} {ns : List N}, ns.length ≤ k → ns.Nodup → ∃ p : List N, p.Nodup ∧ (∀ n ∈ p, n ∈ ns) ∧ PlS st ls p ∧ stuckG st k ls ns = (ns.filter fun m => !decide (m ∈ p)) ∧ ∀ n ∈ ns, n ∉ p → agA st (plL st ls p) n = false
  | 0, ls, ns, hl, _ => by
    have : ns = [] := List.length_eq_zero_iff.mp (by omega)
    subst this
    exact ⟨[], List.nodup_nil, by simp, trivial, rfl, by simp⟩
  | k + 1, ls, ns, hl, hn => by
    unfold stuckG
    cases hf : ns.find? (agA st ls) with
    | none =>
      refine ⟨[], List.nodup_nil, by simp, trivial, (List.filter_eq_self.mpr fun _ _ => by simp).symm, fun n h1 _ => ?_⟩
      have := List.find?_eq_none.mp hf n h1
      show agA st ls n = false
      simpa using this
    | some n =>
      have hm := List.mem_of_find?_eq_some hf
      have ha : agA st ls n = true := List.find?_some hf
      have hlt : (ns.filter fun m => !decide (m = n)).length < ns.length := by
        refine List.length_filter_lt_length_iff_exists.mpr ⟨n, hm, by simp⟩
      obtain ⟨p, p1, p2, p3, p4, p5⟩ := stuckG_is (k := k) (ls := plA st ls n) (ns := ns.filter fun m => !decide (m = n)) (by omega) (hn.filter _)
      have hnp : n ∉ p := fun z => by
        have := p2 n z
        simp at this
      refine ⟨n :: p, List.nodup_cons.mpr ⟨hnp, p1⟩, ?_, ⟨ha, p3⟩, ?_, ?_⟩
      · intro x hx
        rcases List.mem_cons.mp hx with rfl | hx
        · exact hm
        · exact (List.mem_filter.mp (p2 x hx)).1
      · show stuckG st k (plA st ls n) _ = _
        rw [p4, List.filter_filter]
        apply List.filter_congr
        intro x _
        by_cases h1 : x = n <;> by_cases h2 : x ∈ p <;> simp [h1, h2]
      · intro x hx hxp
        have h1 : x ≠ n := fun z => hxp (by rw [z]; exact List.mem_cons_self ..)
        have h2 : x ∉ p := fun z => hxp (List.mem_cons_of_mem _ z)
        exact p5 x (List.mem_filter.mpr ⟨hx, by simpa using h1⟩) h2
/-- nothing is stuck: some order of all peels them off -/
theorem stuckG_nil {k : Nat} {ls : List Lay} {ns : List N} (hl : ns.length ≤ k) (hn : ns.Nodup) (h : stuckG st k ls ns = []) : ∃ p : List N, p.Perm ns ∧ PlS st ls p := by
  obtain ⟨p, p1, p2, p3, p4, p5⟩ := stuckG_is (st := st) (ls := ls) hl hn
  rw [h] at p4
  refine ⟨p, ?_, p3⟩
  refine (List.perm_ext_iff_of_nodup p1 hn).mpr fun x => ⟨p2 x, fun hx => ?_⟩
  have := List.filter_eq_nil_iff.mp p4.symm x hx
  simpa using this
theorem stuckG_all {k : Nat} {ls : List Lay} {ns q : List N} (h : Siz size ls) (hs : ∀ n ∈ ns, (st n).length = size) (hl : ns.length ≤ k) (hn : ns.Nodup) (hq : q.Perm ns) (pq : PlS st ls q) : stuckG st k ls ns = [] := by
  obtain ⟨p, p1, p2, p3, p4, p5⟩ := stuckG_is (st := st) (ls := ls) hl hn
  rw [p4, List.filter_eq_nil_iff]
  intro x hx
  have := within (S := fun n => n ∈ ns) h (fun y hy => hs y (p2 y hy)) (fun y hy => hs y (hq.mem_iff.mp hy)) (hq.nodup_iff.mpr hn) (fun y hy => hq.mem_iff.mp hy) p5 pq x (hq.mem_iff.mpr hx)
  simpa using this
/-! ### orders that lead from all the starts to all the layers -/
def pressQ (st : N → Lay) (x : Lay) (r : List N) : Lay := r.foldl (fun l n => prQ l (st n)) x
/-- a row leads there exactly if it peels off from its end and the start fits what is left -/
theorem leads_iff {x : Lay} (hx : x.length = size) : ∀ {q : List N} {y : Lay}, y.length = size → (∀ n ∈ q, (st n).length = size) → (agQ (pressQ st x q.reverse) y = true ↔ (PlS st [y] q ∧ agQ x (q.foldl (fun l n => frQ l (st n)) y) = true))
  | [], y, hy, _ => by simp [pressQ, PlS]
  | n :: r, y, hy, hs => by
    have hn := hs n (List.mem_cons_self ..)
    have hr : ∀ m ∈ r, (st m).length = size := fun m hm => hs m (List.mem_cons_of_mem _ hm)
    have lp : ∀ (q : List N) (z : Lay), z.length = size → (∀ m ∈ q, (st m).length = size) → (pressQ st z q).length = size := by
      intro q
      induction q with
      | nil => intro z hz _; exact hz
      | cons m q ih =>
        intro z hz hq
        have hm := hq m (List.mem_cons_self ..)
        exact ih (prQ z (st m)) (by rw [prQ_len (by omega)]; exact hz) fun x hx => hq x (List.mem_cons_of_mem _ hx)
    have e : pressQ st x (n :: r).reverse = prQ (pressQ st x r.reverse) (st n) := by
      unfold pressQ
      rw [List.reverse_cons, List.foldl_append]
      rfl
    have l1 := lp r.reverse x hx fun m hm => hr m (List.mem_reverse.mp hm)
    have ly : (frQ y (st n)).length = size := by rw [frQ_len (by omega)]; exact hy
    rw [e, agQ_press (by omega) (by omega), leads_iff hx (q := r) ly hr]
    show _ ↔ (agA st [y] n = true ∧ PlS st (plA st [y] n) r) ∧ _
    have ea : agA st [y] n = agQ y (st n) := by simp [agA]
    have ep : plA st [y] n = [frQ y (st n)] := rfl
    rw [ea, ep, and_assoc]
    rfl
/-- peeling several layers at once is peeling each -/
theorem PlS_each : ∀ {q : List N} {ls : List Lay}, PlS st ls q ↔ ∀ l ∈ ls, PlS st [l] q
  | [], _ => by simp [PlS]
  | n :: r, ls => by
    have ih := PlS_each (q := r) (ls := plA st ls n)
    constructor
    · rintro ⟨h1, h2⟩ l hl
      have h3 := ih.mp h2
      refine ⟨?_, ?_⟩
      · simpa [agA] using List.all_eq_true.mp h1 l hl
      · exact h3 (frQ l (st n)) (List.mem_map.mpr ⟨l, hl, rfl⟩)
    · intro h
      refine ⟨List.all_eq_true.mpr fun l hl => ?_, ih.mpr fun l hl => ?_⟩
      · have := (h l hl).1
        simpa [agA] using this
      · obtain ⟨x, hx, rfl⟩ := List.mem_map.mp hl
        exact (h x hx).2
/-- what is left when stamps are taken off does not hang on their order -/
theorem left_at : ∀ {q : List N} {y : Lay}, y.length = size → (∀ n ∈ q, (st n).length = size) → (q.foldl (fun l n => frQ l (st n)) y).length = size ∧ ∀ c, c < size → (q.foldl (fun l n => frQ l (st n)) y).getD c 0 = if q.any (fun n => !decide ((st n).getD c 0 = 45)) = true then 45 else y.getD c 0
  | [], y, hy, _ => ⟨hy, fun c hc => by simp⟩
  | n :: r, y, hy, hs => by
    have hn := hs n (List.mem_cons_self ..)
    have ly : (frQ y (st n)).length = size := by rw [frQ_len (by omega)]; exact hy
    obtain ⟨i1, i2⟩ := left_at (q := r) ly fun m hm => hs m (List.mem_cons_of_mem _ hm)
    refine ⟨i1, fun c hc => ?_⟩
    show (r.foldl (fun l n => frQ l (st n)) (frQ y (st n))).getD c 0 = _
    rw [i2 c hc, frQ_at (by omega) (by omega), List.any_cons]
    by_cases h1 : (st n).getD c 0 = 45
    · rw [if_pos h1, decide_eq_true h1]
      simp
    · rw [if_neg h1, decide_eq_false h1]
      simp
theorem left_same {p q : List N} {y : Lay} (hy : y.length = size) (hp : ∀ n ∈ p, (st n).length = size) (h : ∀ n, n ∈ p ↔ n ∈ q) : p.foldl (fun l n => frQ l (st n)) y = q.foldl (fun l n => frQ l (st n)) y := by
  have hq : ∀ n ∈ q, (st n).length = size := fun n hn => hp n ((h n).mpr hn)
  obtain ⟨a1, a2⟩ := left_at hy hp
  obtain ⟨b1, b2⟩ := left_at hy hq
  refine lay_ext (by omega) fun c hc => ?_
  rw [a2 c (by omega), b2 c (by omega)]
  have e : (p.any fun n => !decide ((st n).getD c 0 = 45)) = q.any fun n => !decide ((st n).getD c 0 = 45) := by
    rw [Bool.eq_iff_iff, List.any_eq_true, List.any_eq_true]
    exact ⟨fun ⟨x, hx, z⟩ => ⟨x, (h x).mp hx, z⟩, fun ⟨x, hx, z⟩ => ⟨x, (h x).mpr hx, z⟩⟩
  rw [e]
end
end Mi

set_option maxHeartbeats 2000000
namespace Mi
open PySem PySem.Spec PyProof.Rows L2 Evl
section
variable {N : Type} [DecidableEq N]
/-! ### all orders, row by row -/
def wo (ns : List N) (n : N) : List N := ns.filter fun m => !decide (m = n)
def moreR (ns row : List N) : List (List N) := (ns.filter fun e => !decide (e ∈ row)).map fun e => row ++ [e]
def rowsT (ns : List N) : Nat → List (List N)
  | 0 => [[]]
  | t + 1 => (rowsT ns t).flatMap (moreR ns)
def extR (ns : List N) : Nat → List N → List (List N)
  | 0, row => [row]
  | t + 1, row => (ns.filter fun e => !decide (e ∈ row)).flatMap fun e => extR ns t (row ++ [e])
theorem rows_ext (ns : List N) : ∀ (s t : Nat), rowsT ns (t + s) = (rowsT ns t).flatMap (extR ns s)
  | 0, t => by
    show rowsT ns t = (rowsT ns t).flatMap fun row => [row]
    induction rowsT ns t with
    | nil => rfl
    | cons a r ih => rw [List.flatMap_cons, ← ih]; rfl
  | s + 1, t => by
    have e : t + (s + 1) = (t + 1) + s := by omega
    rw [e, rows_ext ns s (t + 1)]
    show ((rowsT ns t).flatMap (moreR ns)).flatMap (extR ns s) = _
    rw [List.flatMap_assoc]
    congr 1
    funext row
    unfold moreR
    rw [List.flatMap_map]
    rfl
theorem rows_all (ns : List N) (n : Nat) : rowsT ns n = extR ns n [] := by
  have := rows_ext ns n 0
  rw [Nat.zero_add] at this
  rw [this]
  show ([[]] : List (List N)).flatMap (extR ns n) = _
  simp
structure RowP (ns row : List N) (t : Nat) : Prop where
  l : row.length = t
  nd : row.Nodup
  sub : ∀ x ∈ row, x ∈ ns
theorem RowP.more {ns row : List N} {t : Nat} (h : RowP ns row t) {e : N} (h1 : e ∈ ns) (h2 : e ∉ row) : RowP ns (row ++ [e]) (t + 1) := by
  refine ⟨by rw [List.length_append, h.l]; rfl, ?_, fun x hx => ?_⟩
  · exact List.nodup_append.mpr ⟨h.nd, by simp, fun a ha b hb z => h2 (by rw [← List.mem_singleton.mp hb, ← z]; exact ha)⟩
  · rcases List.mem_append.mp hx with q | q
    · exact h.sub x q
    · rw [List.mem_singleton.mp q]
      exact h1
theorem rows_ok (ns : List N) : ∀ (t : Nat), ∀ row ∈ rowsT ns t, RowP ns row t
  | 0, row, h => by
    rw [List.mem_singleton.mp h]
    exact ⟨rfl, List.nodup_nil, by simp⟩
  | t + 1, row, h => by
    obtain ⟨r, hr, hm⟩ := List.mem_flatMap.mp h
    obtain ⟨e, he, rfl⟩ := List.mem_map.mp hm
    obtain ⟨h1, h2⟩ := List.mem_filter.mp he
    exact (rows_ok ns t r hr).more h1 (by simpa using h2)
theorem filt_split {α : Type} (p : α → Bool) : ∀ l : List α, (l.filter fun x => !p x).length + (l.filter p).length = l.length
  | [] => rfl
  | a :: l => by
    have ih := filt_split p l
    rw [List.filter_cons, List.filter_cons, List.length_cons]
    cases p a with
    | true => simp; omega
    | false => simp; omega
theorem rest_len {ns row : List N} {t : Nat} (hn : ns.Nodup) (h : RowP ns row t) : (ns.filter fun e => !decide (e ∈ row)).length + t = ns.length := by
  have h1 : (ns.filter fun e => decide (e ∈ row)).length = row.length := by
    refine List.Perm.length_eq ((List.perm_ext_iff_of_nodup (hn.filter _) h.nd).mpr fun x => ?_)
    rw [List.mem_filter]
    simp only [decide_eq_true_eq]
    exact ⟨fun z => z.2, fun z => ⟨h.sub x z, z⟩⟩
  have h2 := filt_split (fun e => decide (e ∈ row)) ns
  rw [h.l] at h1
  omega
theorem rows_len {ns : List N} (hn : ns.Nodup) : ∀ (t : Nat), (rowsT ns (t + 1)).length = (rowsT ns t).length * (ns.length - t) := fun t => by
  show ((rowsT ns t).flatMap (moreR ns)).length = _
  have key : ∀ l : List (List N), (∀ row ∈ l, RowP ns row t) → (l.flatMap (moreR ns)).length = l.length * (ns.length - t) := by
    intro l
    induction l with
    | nil => intro _; simp
    | cons row r ih =>
      intro h
      have h1 := rest_len hn (h row (List.mem_cons_self ..))
      rw [List.flatMap_cons, List.length_append, ih fun x hx => h x (List.mem_cons_of_mem _ hx), List.length_cons, Nat.add_mul, Nat.one_mul]
      unfold moreR
      rw [List.length_map]
      omega
  exact key _ (rows_ok ns t)
theorem rows_few {ns : List N} (hn : ns.Nodup) (h7 : ns.length ≤ 7) : ∀ t, (rowsT ns t).length ≤ 5040 := by
  have L := rows_len hn
  have l0 : (rowsT ns 0).length = 1 := rfl
  have b1 := L 0
  have b2 := L 1
  have b3 := L 2
  have b4 := L 3
  have b5 := L 4
  have b6 := L 5
  have b7 := L 6
  have m1 : (rowsT ns 1).length ≤ 7 := by rw [b1, l0]; omega
  have up : ∀ {a b c d : Nat}, a ≤ b → c ≤ d → a * c ≤ b * d := fun h1 h2 => Nat.mul_le_mul h1 h2
  have m2 : (rowsT ns 2).length ≤ 42 := by rw [b2]; exact up m1 (show ns.length - 1 ≤ 6 by omega)
  have m3 : (rowsT ns 3).length ≤ 210 := by rw [b3]; exact up m2 (show ns.length - 2 ≤ 5 by omega)
  have m4 : (rowsT ns 4).length ≤ 840 := by rw [b4]; exact up m3 (show ns.length - 3 ≤ 4 by omega)
  have m5 : (rowsT ns 5).length ≤ 2520 := by rw [b5]; exact up m4 (show ns.length - 4 ≤ 3 by omega)
  have m6 : (rowsT ns 6).length ≤ 5040 := by rw [b6]; exact up m5 (show ns.length - 5 ≤ 2 by omega)
  have m7 : (rowsT ns 7).length ≤ 5040 := by rw [b7]; exact up m6 (show ns.length - 6 ≤ 1 by omega)
  have m8 : ∀ k, (rowsT ns (8 + k)).length = 0 := by
    intro k
    induction k with
    | zero => rw [L 7]; have : ns.length - 7 = 0 := by omega
              rw [this, Nat.mul_zero]
    | succ k ih => rw [show 8 + (k + 1) = (8 + k) + 1 by omega, L (8 + k), ih, Nat.zero_mul]
  intro t
  rcases Nat.lt_or_ge t 8 with h | h
  · have : t = 0 ∨ t = 1 ∨ t = 2 ∨ t = 3 ∨ t = 4 ∨ t = 5 ∨ t = 6 ∨ t = 7 := by omega
    rcases this with rfl | rfl | rfl | rfl | rfl | rfl | rfl | rfl <;> omega
  · obtain ⟨k, rfl⟩ : ∃ k, t = 8 + k := ⟨t - 8, by omega⟩
    rw [m8 k]
    omega
theorem rows_perm {ns : List N} (hn : ns.Nodup) {r : List N} (h : r ∈ rowsT ns ns.length) : r.Perm ns := by
  have hr := rows_ok ns _ r h
  have hl := rest_len hn hr
  have h0 : (ns.filter fun e => !decide (e ∈ r)) = [] := List.length_eq_zero_iff.mp (by omega)
  refine (List.perm_ext_iff_of_nodup hr.nd hn).mpr fun x => ⟨hr.sub x, fun hx => ?_⟩
  have := List.filter_eq_nil_iff.mp h0 x hx
  simpa using this
/-! ### the first order -/
section
variable {st : N → Lay} {size : Nat} {ls : List Lay}
def CP (st : N → Lay) (ls : List Lay) (ns : List N) : Prop := stuckG st ns.length ls ns = []
instance (st : N → Lay) (ls : List Lay) (ns : List N) : Decidable (CP st ls ns) := decidable_of_iff ((stuckG st ns.length ls ns).length = 0) List.length_eq_zero_iff
theorem cp_iff (h : Siz size ls) {ns : List N} (hs : ∀ n ∈ ns, (st n).length = size) (hn : ns.Nodup) : CP st ls ns ↔ ∃ q : List N, q.Perm ns ∧ PlS st ls q :=
  ⟨fun z => stuckG_nil (Nat.le_refl _) hn z, fun ⟨q, h1, h2⟩ => stuckG_all h hs (Nat.le_refl _) hn h1 h2⟩
theorem PlS_app : ∀ {p q : List N} {ls : List Lay}, PlS st ls (p ++ q) ↔ PlS st ls p ∧ PlS st (plL st ls p) q
  | [], q, ls => by simp [PlS, plL]
  | n :: p, q, ls => by
    have ih := PlS_app (p := p) (q := q) (ls := plA st ls n)
    show (agA st ls n = true ∧ PlS st (plA st ls n) (p ++ q)) ↔ (agA st ls n = true ∧ PlS st (plA st ls n) p) ∧ PlS st (plL st (plA st ls n) p) q
    rw [ih, and_assoc]
def orderG (st : N → Lay) (ls : List Lay) : Nat → List N → List N
  | 0, _ => []
  | k + 1, rest => match rest.find? (fun n => decide (CP st ls (wo rest n))) with
    | none => []
    | some n => n :: orderG st ls k (wo rest n)
theorem wo_perm {ns : List N} (hn : ns.Nodup) {n : N} (h : n ∈ ns) : (n :: wo ns n).Perm ns := by
  have h1 : n ∉ wo ns n := fun z => by
    have := (List.mem_filter.mp z).2
    simp at this
  refine (List.perm_ext_iff_of_nodup (List.nodup_cons.mpr ⟨h1, hn.filter _⟩) hn).mpr fun x => ?_
  constructor
  · intro z
    rcases List.mem_cons.mp z with rfl | z
    · exact h
    · exact (List.mem_filter.mp z).1
  · intro z
    by_cases e : x = n
    · rw [e]
      exact List.mem_cons_self ..
    · exact List.mem_cons_of_mem _ (List.mem_filter.mpr ⟨z, by simpa using e⟩)
theorem wo_len {ns : List N} (hn : ns.Nodup) {n : N} (h : n ∈ ns) : (wo ns n).length + 1 = ns.length := by
  have := (wo_perm hn h).length_eq
  simpa using this
theorem wo_mem {ns : List N} {n x : N} : x ∈ wo ns n ↔ x ∈ ns ∧ x ≠ n := by
  unfold wo
  rw [List.mem_filter]
  simp
/-- of stamps that all peel off, one may lie lowest -/
theorem low_one (h : Siz size ls) {ns : List N} (hs : ∀ n ∈ ns, (st n).length = size) (hn : ns.Nodup) (hc : CP st ls ns) (hne : ns ≠ []) : ∃ n, ns.find? (fun n => decide (CP st ls (wo ns n))) = some n := by
  obtain ⟨q, hq, hp⟩ := (cp_iff h hs hn).mp hc
  have hq0 : q ≠ [] := fun z => hne (by rw [z] at hq; exact hq.symm.eq_nil)
  obtain ⟨p, a, rfl⟩ : ∃ p a, q = p ++ [a] := ⟨q.dropLast, q.getLast hq0, (List.dropLast_concat_getLast hq0).symm⟩
  have ha : a ∈ ns := hq.mem_iff.mp (by simp)
  have hpp : p.Perm (wo ns a) := by
    have h1 : (a :: p).Perm ns := (List.perm_append_comm (l₁ := [a]) (l₂ := p)).trans hq
    exact List.Perm.cons_inv (h1.trans (wo_perm hn ha).symm)
  have hcp : CP st ls (wo ns a) := (cp_iff h (fun n hx => hs n (wo_mem.mp hx).1) (hn.filter _)).mpr ⟨p, hpp, (PlS_app.mp hp).1⟩
  cases hf : ns.find? (fun n => decide (CP st ls (wo ns n))) with
  | some n => exact ⟨n, rfl⟩
  | none =>
    have := List.find?_eq_none.mp hf a ha
    exact absurd (decide_eq_true hcp) this
theorem filt_more {ns row : List N} {e : N} : (ns.filter fun x => !decide (x ∈ row ++ [e])) = wo (ns.filter fun x => !decide (x ∈ row)) e := by
  unfold wo
  rw [List.filter_filter]
  apply List.filter_congr
  intro x _
  by_cases h1 : x ∈ row <;> by_cases h2 : x = e <;> simp [h1, h2]
theorem first_order (h : Siz size ls) {ns : List N} (hs : ∀ n ∈ ns, (st n).length = size) (hn : ns.Nodup) {V : List N → Bool} (hV : ∀ r, r.Perm ns → (V r = true ↔ PlS st ls r.reverse)) :
    ∀ (t : Nat) (row : List N), RowP ns row (ns.length - t) → t ≤ ns.length → CP st ls (ns.filter fun e => !decide (e ∈ row)) → (∀ q, q.Perm (ns.filter fun e => !decide (e ∈ row)) → PlS st ls q → PlS st (plL st ls q) row.reverse) →
      (extR ns t row).find? V = some (row ++ orderG st ls t (ns.filter fun e => !decide (e ∈ row)))
  | 0, row, hr, ht, hc, hI => by
    have hl := rest_len hn hr
    have h0 : (ns.filter fun e => !decide (e ∈ row)) = [] := List.length_eq_zero_iff.mp (by omega)
    have hp : row.Perm ns := (List.perm_ext_iff_of_nodup hr.nd hn).mpr fun x => ⟨hr.sub x, fun hx => by simpa using List.filter_eq_nil_iff.mp h0 x hx⟩
    have hv : V row = true := (hV row hp).mpr (by
      have := hI [] (by rw [h0]) trivial
      exact this)
    show [row].find? V = some (row ++ [])
    rw [List.append_nil, List.find?_cons_of_pos hv]
  | t + 1, row, hr, ht, hc, hI => by
    have hl := rest_len hn hr
    have hrn : (ns.filter fun e => !decide (e ∈ row)).Nodup := hn.filter _
    have hrs : ∀ n ∈ ns.filter (fun e => !decide (e ∈ row)), (st n).length = size := fun n hx => hs n (List.mem_filter.mp hx).1
    show ((ns.filter fun e => !decide (e ∈ row)).flatMap fun e => extR ns t (row ++ [e])).find? V = _
    rw [List.find?_flatMap]
    have each : ∀ e ∈ ns.filter (fun e => !decide (e ∈ row)), (extR ns t (row ++ [e])).find? V = if CP st ls (wo (ns.filter fun e => !decide (e ∈ row)) e) then some (row ++ [e] ++ orderG st ls t (wo (ns.filter fun e => !decide (e ∈ row)) e)) else none := fun e he => by
      obtain ⟨he1, he2⟩ := List.mem_filter.mp he
      have hre : RowP ns (row ++ [e]) (ns.length - t) := by
        have := hr.more he1 (by simpa using he2)
        rw [show ns.length - (t + 1) + 1 = ns.length - t by omega] at this
        exact this
      by_cases hce : CP st ls (wo (ns.filter fun e => !decide (e ∈ row)) e)
      · rw [if_pos hce, ← filt_more]
        refine first_order h hs hn hV t (row ++ [e]) hre (by omega) (by rw [filt_more]; exact hce) fun q hq hpq => ?_
        rw [filt_more] at hq
        have hqe : (q ++ [e]).Perm (ns.filter fun e => !decide (e ∈ row)) := (List.perm_append_comm (l₁ := q) (l₂ := [e])).trans ((hq.cons e).trans (wo_perm hrn he))
        have hag : agA st (plL st ls q) e = true := by
          cases hx : agA st (plL st ls q) e with
          | true => rfl
          | false =>
            obtain ⟨p, hp1, hp2⟩ := (cp_iff h hrs hrn).mp hc
            have hqs : ∀ n ∈ q, (st n).length = size := fun n hnq => hrs n (wo_mem.mp (hq.mem_iff.mp hnq)).1
            have := within (S := fun n => n ∈ ns.filter (fun e => !decide (e ∈ row))) h hqs (fun n hnp => hrs n (hp1.mem_iff.mp hnp)) (hp1.nodup_iff.mpr hrn) (fun n hnp => hp1.mem_iff.mp hnp) (fun n hS hnq => by
              have : n = e := Classical.byContradiction fun z => hnq (hq.mem_iff.mpr (wo_mem.mpr ⟨hS, z⟩))
              rw [this]
              exact hx) hp2 e (hp1.mem_iff.mpr he)
            exact absurd (wo_mem.mp (hq.mem_iff.mp this)).2 (by simp)
        have happ : PlS st ls (q ++ [e]) := PlS_app.mpr ⟨hpq, hag, trivial⟩
        have := hI _ hqe happ
        rw [List.reverse_append]
        refine ⟨hag, ?_⟩
        have e2 : plL st ls (q ++ [e]) = plA st (plL st ls q) e := by
          unfold plL
          rw [List.foldl_append]
          rfl
        rw [e2] at this
        exact this
      · rw [if_neg hce, List.find?_eq_none]
        intro r hrr hv
        apply hce
        have sub : ∀ (t : Nat) (row r : List N), r ∈ extR ns t row → ∃ u, r = row ++ u := by
          intro t
          induction t with
          | zero => intro row r hr; exact ⟨[], by rw [List.mem_singleton.mp hr, List.append_nil]⟩
          | succ t ih =>
            intro row r hr
            obtain ⟨a, _, h2⟩ := List.mem_flatMap.mp hr
            obtain ⟨u, rfl⟩ := ih _ r h2
            exact ⟨[a] ++ u, by rw [List.append_assoc]⟩
        have okr : ∀ (t : Nat) (row r : List N) (m : Nat), RowP ns row m → r ∈ extR ns t row → RowP ns r (m + t) := by
          intro t
          induction t with
          | zero => intro row r m h1 h2; rw [List.mem_singleton.mp h2]; exact h1
          | succ t ih =>
            intro row r m h1 h2
            obtain ⟨a, ha, h3⟩ := List.mem_flatMap.mp h2
            obtain ⟨a1, a2⟩ := List.mem_filter.mp ha
            have := ih _ r (m + 1) (h1.more a1 (by simpa using a2)) h3
            rw [show m + 1 + t = m + (t + 1) by omega] at this
            exact this
        obtain ⟨u, rfl⟩ := sub t _ r hrr
        have hR := okr t _ _ _ hre hrr
        have hp : ((row ++ [e]) ++ u).Perm ns := by
          have hl2 := rest_len hn hR
          have h0 : (ns.filter fun x => !decide (x ∈ (row ++ [e]) ++ u)) = [] := List.length_eq_zero_iff.mp (by omega)
          refine (List.perm_ext_iff_of_nodup hR.nd hn).mpr fun x => ⟨hR.sub x, fun hx => Classical.byContradiction fun hh => ?_⟩
          have := List.filter_eq_nil_iff.mp h0 x hx
          exact this (by rw [decide_eq_false hh]; rfl)
        have hps := (hV _ hp).mp hv
        rw [List.reverse_append] at hps
        have h1 := (PlS_app.mp hps).1
        refine (cp_iff h (fun n hx => hrs n (wo_mem.mp hx).1) (hrn.filter _)).mpr ⟨u.reverse, ?_, h1⟩
        have hun : u.Nodup := (List.nodup_append.mp hR.nd).2.1
        refine (List.reverse_perm u).trans ((List.perm_ext_iff_of_nodup hun (hrn.filter _)).mpr fun x => ?_)
        show x ∈ u ↔ x ∈ wo (ns.filter fun e => !decide (e ∈ row)) e
        rw [← filt_more, List.mem_filter]
        constructor
        · intro hx
          refine ⟨hR.sub x (List.mem_append_right _ hx), ?_⟩
          have := (List.nodup_append.mp hR.nd).2.2
          simp only [Bool.not_eq_true', decide_eq_false_iff_not]
          exact fun z => this x z x hx rfl
        · rintro ⟨hx1, hx2⟩
          have hx3 := hp.mem_iff.mpr hx1
          rcases List.mem_append.mp hx3 with z | z
          · simp [z] at hx2
          · exact z
    have hne : (ns.filter fun e => !decide (e ∈ row)) ≠ [] := fun z => by
      rw [z] at hl
      simp at hl
      omega
    obtain ⟨a, hfa⟩ := low_one h hrs hrn hc hne
    generalize (ns.filter fun e => !decide (e ∈ row)) = rest at each hfa
    show rest.findSome? (fun e => (extR ns t (row ++ [e])).find? V) = some (row ++ (match rest.find? (fun n => decide (CP st ls (wo rest n))) with | none => [] | some n => n :: orderG st ls t (wo rest n)))
    have key : ∀ l : List N, (∀ e ∈ l, e ∈ rest) → l.findSome? (fun e => (extR ns t (row ++ [e])).find? V) = (l.find? (fun n => decide (CP st ls (wo rest n)))).map fun n => row ++ [n] ++ orderG st ls t (wo rest n) := by
      intro l
      induction l with
      | nil => intro _; rfl
      | cons e r ih =>
        intro hl2
        rw [List.findSome?_cons, List.find?_cons, each e (hl2 e (List.mem_cons_self ..))]
        by_cases hce : CP st ls (wo rest e)
        · rw [if_pos hce, decide_eq_true hce]
          rfl
        · rw [if_neg hce, decide_eq_false hce]
          exact ih fun x hx => hl2 x (List.mem_cons_of_mem _ hx)
    rw [key rest fun e he => he, hfa]
    simp
end
end
end Mi

set_option maxHeartbeats 2000000
namespace Mi
open PySem PySem.Spec PyProof.Rows L2 Evl
/-! ### t + u, t may be empty -/
theorem cat_tup0 {prog : Program} {w : World} {A : Around} {E : Value → Shared → Prop} {s : Shared} {t b : Addr} {ws : List Value} {Q : Value → Shared → Prop} (ht : IsTup s.heap t ([] : List Value).toArray) (hb : IsTup s.heap b ws.toArray) (h1 : Q (.ref b) s) : wpAny (model prog w) A (binaryOp .Add (.ref t) (.ref b)) Q E s := by
  obtain ⟨⟨cls, dd, data, sl⟩, ho, hc, n, hd⟩ := id ht
  obtain ⟨⟨cls2, dd2, data2, sl2⟩, ho2, hc2, n2, hd2⟩ := id hb
  simp only at hc hd hc2 hd2
  subst hc hd hc2 hd2
  exact concat_meets ⟨_, ho, rfl⟩ ⟨_, ho2, rfl⟩ noFill_tuple_add seq_tuple_add PySem.F.slot_tuple_add PySem.F.entry_tuple_add (PySem.F.args_tuple_add_2 _ _)
      (tuple_addW0 t b ([] : List Value).toArray ws.toArray n n2 dd dd2 sl sl2 (by simp)) ⟨ho, ho2, h1⟩
def rCatU (K : PySem.W.Frag) : R2 := fun x y H Q => ∃ a b xs ys, x = .ref a ∧ y = .ref b ∧ SqT K H a xs ∧ SqT K H b ys ∧ xs.length + ys.length ≤ sizeLine ∧ (xs = [] → Q (.ref b) H) ∧ (xs ≠ [] → ys = [] → Q (.ref a) H) ∧ (xs ≠ [] → ys ≠ [] → ∀ p, H p = none → Q (.ref p) (upd H p (.tup (xs ++ ys))))
theorem op_catU {X : Cx} : OpR X (binaryOp .Add) (rCatU X.K) := by
  intro pins s σ H x y v u Q I rx ry h
  obtain ⟨a, b, xs, ys, rfl, rfl, ha, hb, hz, q0, q1, q2⟩ := h
  by_cases hx : xs = []
  · cases rx
    cases ry
    obtain ⟨its, r1, p1, _⟩ := I.tuple ha
    obtain ⟨its2, r2, p2, _⟩ := I.tuple hb
    have e : its = [] := r1.nil_iff.mpr hx
    subst e
    exact cat_tup0 p1 p2 ⟨.ref b, H, I, rfl, q0 hx⟩
  · exact op_catT pins s σ H (.ref a) (.ref b) v u Q I rx ry ⟨a, b, xs, ys, rfl, rfl, ha, hb, hx, hz, q1 hx, q2 hx⟩
theorem op_catU_k {X : Cx} {K : PySem.W.Frag} (h : X.K = K := by rfl) : OpR X (binaryOp .Add) (rCatU K) := h ▸ op_catU
section
variable {K : PySem.W.Frag} {H : Hp}
theorem ro_catU {xs ys : List V} (hz : xs.length + ys.length ≤ 100000) : Ro K (rCatU K) (.u xs) (.u ys) (.u (xs ++ ys)) := by
  rintro _ _ H1 ⟨p, rfl, hp⟩ ⟨p', rfl, hp'⟩ Q q
  refine ⟨p, p', xs, ys, rfl, rfl, hp, hp', sz_of hz, fun e => ?_, fun _ e => ?_, fun _ _ l hl => ?_⟩
  · subst e
    exact q _ H1 (Ex.refl _) ⟨p', rfl, hp'⟩
  · subst e
    rw [List.append_nil] at q
    exact q _ H1 (Ex.refl _) ⟨p, rfl, hp⟩
  · exact q _ _ (Ex.new hl) ⟨l, rfl, st_of upd_same⟩
end
end Mi

set_option maxHeartbeats 2000000
namespace Mi
open PySem PySem.Spec PyProof.Rows L2 Evl PySem.W

/-! ### sorted(t), t a list or a tuple of texts -/
def rSortT (K : PySem.W.Frag) : List V → Hp → VK → Prop := fun vs H Q => ∃ (a : Addr) (ys : List (List Nat)), vs = [.ref a] ∧ (SqL K H a (vsl ys) ∨ SqT K H a (vsl ys)) ∧ ys.length ≤ 1000 ∧ ∀ p, H p = none → Q (.ref p) (upd H p (.lst (vsl (ordd false ys))))
theorem sort_run {X : Cx} {pins : List (Addr × Obj)} {s : Shared} {σ : L2.St} {H : Hp} {a : Addr} {T : String} {o : Obj} {its : List Value} {n : Nat} {ys : List (List Nat)} {Q : VK} (hu : X.A.units + 2 < cLine) (I : Inv X pins σ H s)
    (hT : T = "list" ∨ T = "tuple") (ho : s.heap.get? a = some o) (hc : o.cls = .type T) (hd : o.data = .seq its.toArray n) (e : EachIs IsT its ys) (hL : its.length ≤ 1000)
    (q : ∀ p, H p = none → Q (.ref p) (upd H p (.lst (vsl (ordd false ys))))) : wpAny (model X.prog X.w) X.A (call (.builtin "sorted") [.ref a]) (EP X pins σ Q) X.xe s := by
  have hz : its.length ≤ sizeLine := by rw [sizeLine_eq]; omega
  refine call_function_entry_kw kind_sorted plain_sorted entry_sorted (args_sorted1 _) ?_
  unfold Builtin.«sorted»
  refine wpAny_bind (m := checkCount "sorted" 1 1 _) (wpAny_pure (wpAny_bind (wpAny_collect_seq (n := n) a hT ho hc hd (fun h1 k1 => ?_) (by rw [List.size_toArray]; exact hz))))
  have I1 : Inv X pins σ H { s with heap := h1 } := I.kept (t' := s.toks) k1
  rw [List.toList_toArray]
  refine wpAny_bind (wpAny_newList ?_ hz)
  show wpAny _ _ _ _ _ { s with heap := h1.push (seqObj "list" its.toArray 0) }
  have hD : (h1.push (seqObj "list" its.toArray 0)).get? h1.objs.size = some (seqObj "list" its.toArray 0) := Heap.get?_push_size _ rfl
  refine wpAny_bind (wpAny_holding (wpAny_call_entry_kw slot_list_sort ⟨_, hD, rfl⟩ entry_list_sort ?body (args_list_sort _)))
  case body =>
    show wpAny (model X.prog X.w) X.A.in1.in1 (Builtin.«list.sort» ⟨[.ref h1.objs.size], []⟩) _ _ { s with heap := h1.push (seqObj "list" its.toArray 0) }
    have alk : AllAlike (ys.map fun z => PyData.str (S z)) := AllAlike.of fun _ _ => rfl
    have srt : Sortable (ys.map fun z => PyData.str (S z)) := Sortable.others fun z => ⟨by simp, fun xs => by simp⟩
    have dep : ∀ d, d ∈ ys.map (fun z => PyData.str (S z)) → X.A.in1.in1.units + d.depth < cLine := fun d hd => by
      obtain ⟨z, _, rfl⟩ := List.mem_map.mp hd
      show X.A.units + 1 + 1 + 0 < cLine
      omega
    have rd := reads_of_each (hp := sortingHeap (h1.push (seqObj "list" its.toArray 0)) h1.objs.size its) e
    have out1 : EachIs IsT (sortVals (dataKind (sortingHeap (h1.push (seqObj "list" its.toArray 0)) h1.objs.size its) (ys.map fun z => PyData.str (S z))) false its its) (ys.mergeSort (dataLe false fun z => PyData.str (S z))) := keyedOut_each (rev := false) (fun z => PyData.str (S z)) ⟨_, its, alk, rfl, rd⟩ e
    rw [dataLe_S] at out1
    refine wpAny_mono (list_sort_vals (A := X.A.in1.in1) (s := { s with heap := h1.push (seqObj "list" its.toArray 0) }) (P := fun f s' => f = .done (.ret .none) ∧ EP X pins σ Q (.ref h1.objs.size) s') hD (SortsAt.data rd alk srt dep) hz ⟨rfl, ?_⟩) (fun f s' hf => ?_) fun _ _ e => e
    · obtain ⟨c, hc2⟩ := sortedHeap_at (out := (sortVals (dataKind (sortingHeap (h1.push (seqObj "list" its.toArray 0)) h1.objs.size its) (ys.map fun z => PyData.str (S z))) false its its).toArray) hD
      have hn : H h1.objs.size = none := I1.hok.fresh (Nat.le_refl _)
      have hl4 : (vsl (ordd false ys)).length ≤ sizeLine := by
        rw [vsl_len]
        unfold ordd
        rw [List.length_mergeSort, ← e.length]
        exact hz
      refine ⟨.ref h1.objs.size, _, I1.laid (t' := s.toks) (o := .lst (vsl (ordd false ys))) (fun b u hb => ?_) (Nat.le_refl _) ⟨hl4, _, c, vals_of_each out1, hc2⟩, rfl, q _ hn⟩
      have hlt : b < h1.objs.size := Heap.lt_size hb
      show (sortedHeap _ _ _ _).get? b = some u
      rw [sortedHeap_old (Nat.ne_of_lt hlt) (by rw [size_push']; exact Nat.lt_succ_of_lt hlt)]
      exact Heap.get?_push_of_some _ hb
    · obtain ⟨rfl, hq⟩ := hf
      exact ⟨_, rfl, wpAny_pure ⟨_, rfl, hq⟩⟩
theorem cr_sortT {X : Cx} (hu : X.A.units + 2 < cLine) : CallR X (.builtin "sorted") (rSortT X.K) := by
  intro pins s σ H vs us Q I r h
  obtain ⟨a, ys, rfl, hs, hy, q⟩ := h
  obtain rfl := Vals.ref1 r
  rcases hs with hs | hs
  · obtain ⟨its, rv, hl, _⟩ := I.list hs
    obtain ⟨o, ho, hc, n, hd⟩ := hl.isList
    have ev := each_of_vals rv
    exact sort_run hu I (.inl rfl) ho hc hd ev (by rw [ev.length]; exact hy) q
  · obtain ⟨its, rv, ⟨o, ho, hc, n, hd⟩, _⟩ := I.tuple hs
    have ev := each_of_vals rv
    exact sort_run hu I (.inr rfl) ho hc hd ev (by rw [ev.length]; exact hy) q
theorem cr_sortT_k {X : Cx} {K : PySem.W.Frag} (hu : X.A.units + 2 < cLine) (h : X.K = K := by rfl) : CallR X (.builtin "sorted") (rSortT K) := h ▸ cr_sortT hu
section
variable {K : PySem.W.Frag}
theorem rc_sortT {ys : List (List Nat)} (hy : ys.length ≤ 1000) : Rc K (rSortT K) [.u (vsl ys)] (.n (vsl (ordd false ys))) := by
  rintro _ H1 (_ | ⟨⟨p, rfl, hp⟩, _ | _⟩) Q q
  exact ⟨p, ys, rfl, .inr hp, hy, fun l hl => q _ _ (Ex.new hl) ⟨l, rfl, upd_same⟩⟩
theorem rc_sortL {ys : List (List Nat)} (hy : ys.length ≤ 1000) : Rc K (rSortT K) [.l (vsl ys)] (.n (vsl (ordd false ys))) := by
  rintro _ H1 (_ | ⟨⟨p, rfl, hp⟩, _ | _⟩) Q q
  exact ⟨p, ys, rfl, .inl hp, hy, fun l hl => q _ _ (Ex.new hl) ⟨l, rfl, upd_same⟩⟩
end
/-- two lists sorted are the same exactly if one is the other in another order -/
theorem ordd_eq {xs ys : List (List Nat)} : ordd false xs = ordd false ys ↔ xs.Perm ys := by
  constructor
  · intro h
    have p1 : (ordd false xs).Perm xs := List.mergeSort_perm _ _
    have p2 : (ordd false ys).Perm ys := List.mergeSort_perm _ _
    exact p1.symm.trans (h ▸ p2)
  · intro h
    unfold ordd
    rw [if_neg Bool.false_ne_true]
    have tr : ∀ a b c : List Nat, decide (a ≤ b) = true → decide (b ≤ c) = true → decide (a ≤ c) = true := fun a b c h1 h2 => decide_eq_true (List.le_trans (of_decide_eq_true h1) (of_decide_eq_true h2))
    have to : ∀ a b : List Nat, (decide (a ≤ b) || decide (b ≤ a)) = true := fun a b => by
      rcases List.le_total a b with q | q <;> simp [q]
    refine List.Perm.eq_of_pairwise (le := fun a b => decide (a ≤ b) = true) (fun a b _ _ h1 h2 => List.le_antisymm (of_decide_eq_true h1) (of_decide_eq_true h2)) (List.pairwise_mergeSort tr to xs) (List.pairwise_mergeSort tr to ys) ?_
    exact (List.mergeSort_perm _ _).trans (h.trans (List.mergeSort_perm _ _).symm)

/-! ### t[i:j], t.index(x), xs.index(x) -/
theorem sl_tup_k {X : Cx} {K : PySem.W.Frag} (h : X.K = K := by rfl) : SlR X (rSlA K) := h ▸ sl_tupA
def rTix (K : PySem.W.Frag) : V → List V → Hp → VK → Prop := fun x xs H Q => ∃ p, ∃ ys : List Str, ∃ z j, x = .ref p ∧ xs = [.str z] ∧ SqT K H p (ys.map V.str) ∧ ys[j]? = some z ∧ (∀ m, m < j → ys[m]? ≠ some z) ∧ Q (.int (j : Nat)) H
theorem mt_tindex_k {X : Cx} {K : PySem.W.Frag} (h : X.K = K := by rfl) : MtR X "tuple.index" (rTix K) := h ▸ mt_tup_index
theorem mt_lindex_k {X : Cx} {K : PySem.W.Frag} (h : X.K = K := by rfl) : MtR X "list.index" (rIndex K) := h ▸ mt_index
theorem ix_of {r : List (List Nat)} {n : List Nat} (h : n ∈ r) : r[r.idxOf n]? = some n ∧ ∀ m, m < r.idxOf n → r[m]? ≠ some n := by
  have hl := List.idxOf_lt_length_of_mem h
  refine ⟨by rw [List.getElem?_eq_getElem hl, List.getElem_idxOf hl], fun m hm e => ?_⟩
  obtain ⟨h1, h2⟩ := List.getElem?_eq_some_iff.mp e
  have := List.not_of_lt_findIdx (p := (· == n)) (xs := r) (i := m) hm
  simp [h2] at this
section
variable {K : PySem.W.Frag} {σ : L2.St} {H : Hp} {te ta tb : TE} {r : List (List Nat)} {n : List Nat}
theorem rm_lix (h : n ∈ r) : Rm K "list" (rIndex K) (.l (vsl r)) [.s (S n)] (.i ((r.idxOf n : Nat) : Int)) := by
  obtain ⟨h1, h2⟩ := ix_of h
  have ats : ∀ {m : Nat} {z : V}, (vsl r)[m]? = some z → ∃ l, r[m]? = some l ∧ V.str (S l) = z := fun q => vsl_at q
  refine ⟨fun x H1 e => ?_, ?_⟩
  · obtain ⟨p, rfl, hp⟩ := e
    exact .inl ⟨rfl, _, hp⟩
  · rintro _ _ H1 ⟨p, rfl, hp⟩ (_ | ⟨rfl, _ | _⟩) Q q
    refine ⟨p, vsl r, .str (S n), r.idxOf n, .str (S n), rfl, rfl, hp, rfl, by rw [vsl, vss]; exact List.all_eq_true.mpr fun v hv => by obtain ⟨s, _, rfl⟩ := List.mem_map.mp hv; rfl, by rw [vsl, vss, List.getElem?_map, List.getElem?_map, h1]; rfl, by simp [eqV], fun m z hm hz => ?_, q _ H1 (Ex.refl H1) rfl⟩
    obtain ⟨l, hl, rfl⟩ := ats hz
    have : S l ≠ S n := fun e => h2 m hm (by rw [hl, S_inj e])
    simp [eqV, this]
/-- t[i:j] -/
theorem er_slT {tl th : TO} {xs : List V} {lo hi : Option Int} (h : Er K te σ H (.u xs)) (h1 : EvO tl σ H lo) (h2 : EvO th σ H hi) : Er K (tSl (rSlA K) te tl th) σ H (.u (cutV xs lo hi)) := fun H1 e _ q =>
  h H1 e _ fun v H2 e2 ⟨p, ep, hp⟩ => h1 H2 (e.trans e2) _ fun H3 e3 => h2 H3 ((e.trans e2).trans e3) _ fun H4 e4 => by
    subst ep
    have hp4 := ex_t (e3.trans e4) hp
    refine ⟨p, xs, rfl, hp4, fun hw => q _ H4 ((e2.trans e3).trans e4) ⟨p, rfl, ?_⟩, fun _ l hl => q _ _ (((e2.trans e3).trans e4).trans (Ex.new hl)) ⟨l, rfl, st_of upd_same⟩⟩
    have : cutV xs lo hi = xs := by
      unfold cutV
      rw [hw.1, hw.2, List.drop_zero, Nat.sub_zero, List.take_length]
    rw [this]
    exact hp4
end
theorem cutV_to {xs : List V} {n : Nat} : cutV xs none (some (n : Int)) = xs.take n := by
  unfold cutV
  rw [HT.sIx_none, HT.sIx_nat, List.drop_zero, Nat.sub_zero, List.take_eq_take_iff]
  omega

/-! ### tuples whose objects are known: their methods may be called -/
def Zt (H : Hp) (p : Addr) (xs : List V) : Prop := ∃ o, H p = some (.frz o (.tup xs)) ∧ o.cls = .type "tuple" ∧ o.dict = none
theorem Zt.sq {K : PySem.W.Frag} {H : Hp} {p : Addr} {xs : List V} (h : Zt H p xs) : SqT K H p xs := by
  obtain ⟨o, h, _⟩ := h
  exact .inl (.inr ⟨o, h⟩)
theorem Zt.mono {H H' : Hp} {p : Addr} {xs : List V} (e : Ex H H') (h : Zt H p xs) : Zt H' p xs := by
  obtain ⟨o, h, r⟩ := h
  exact ⟨o, e p _ h, r⟩
def zU (xs : List V) : Dd := .P ⟨fun H v => ∃ p, v = .ref p ∧ Zt H p xs, fun e h => by
  obtain ⟨p, rfl, z⟩ := h
  exact ⟨p, rfl, z.mono e⟩⟩
theorem Is.z2u {K : PySem.W.Frag} {H : Hp} {xs : List V} {v : V} (h : Is K H (zU xs) v) : Is K H (.u xs) v := by
  obtain ⟨p, rfl, z⟩ := h
  exact ⟨p, rfl, z.sq⟩
def tTupZ (t : TA) : TE := fun σ H Q => t σ H fun xs H1 => xs.length ≤ sizeLine ∧ ∀ p (o : Obj), H1 p = none → o.cls = .type "tuple" → o.dict = none → Q (.ref p) (upd H1 p (.frz o (.tup xs)))
theorem pe_tupZ {X : Cx} {es : List Expr} {x1 : Nat} {pos : Pos} {t : TA} (h : PA X es t) : PE X (.Tuple es x1 pos) (tTupZ t) := by
  refine ⟨fun pins s σ H Q I hq => wpAny_Tuple_spliced (thn (h.run pos pins s σ H _ I hq) fun us s1 ⟨xs, H1, I1, r, z, q⟩ => ⟨by rw [← r.length]; exact z, ?_⟩)⟩
  have hn : H1 s1.heap.objs.size = none := I1.hok.fresh (Nat.le_refl _)
  exact ⟨.ref s1.heap.objs.size, _, I1.laid (t' := s1.toks) (o := .frz { cls := .type "tuple", data := .seq us.toArray } (.tup xs)) (fun b u e => Heap.get?_push_of_some _ e) (Nat.le_refl _) ⟨Heap.get?_push_size _ rfl, z, us, r, _, Heap.get?_push_size _ rfl, rfl, _, rfl⟩, rfl, q _ _ hn rfl rfl⟩
def rTupZ (K : PySem.W.Frag) : List V → Hp → VK → Prop := fun vs H Q => ∃ p ys, vs = [.ref p] ∧ SqL K H p ys ∧ ∀ l (o : Obj), H l = none → o.cls = .type "tuple" → o.dict = none → Q (.ref l) (upd H l (.frz o (.tup ys)))
theorem cr_tupZ {X : Cx} : CallR X (.type "tuple") (rTupZ X.K) := by
  rintro pins s σ H xs us Q I r ⟨p, ys, rfl, hq, q⟩
  obtain rfl := Vals.ref1 r
  obtain ⟨its, r', pl, hz⟩ := I.list hq
  have hlen := r'.length
  refine call_tuple_list pl.isList (fun h' kp => ?_) (by rw [List.size_toArray, ← hlen]; exact hz)
  have I1 : Inv X pins σ H { s with heap := h' } := I.kept (t' := s.toks) kp
  exact ⟨.ref h'.objs.size, _, I1.laid (t' := s.toks) (o := .frz { cls := .type "tuple", data := .seq its.toArray } (.tup ys)) (fun b u e => Heap.get?_push_of_some _ e) (Nat.le_refl _) ⟨Heap.get?_push_size _ rfl, hz, its, r', IsTup.new _ _⟩, rfl, q _ _ (I1.hok.fresh (Nat.le_refl _)) rfl rfl⟩
theorem cr_tupZ_k {X : Cx} {K : PySem.W.Frag} (h : X.K = K := by rfl) : CallR X (.type "tuple") (rTupZ K) := h ▸ cr_tupZ
def rCatZ (K : PySem.W.Frag) : R2 := fun x y H Q => ∃ a b xs ys, x = .ref a ∧ y = .ref b ∧ SqT K H a xs ∧ SqT K H b ys ∧ xs.length + ys.length ≤ sizeLine ∧ (xs = [] → Q (.ref b) H) ∧ (xs ≠ [] → ys = [] → Q (.ref a) H) ∧
  (xs ≠ [] → ys ≠ [] → ∀ p (o : Obj), H p = none → o.cls = .type "tuple" → o.dict = none → Q (.ref p) (upd H p (.frz o (.tup (xs ++ ys)))))
theorem op_catZ {X : Cx} : OpR X (binaryOp .Add) (rCatZ X.K) := by
  rintro pins s σ H x y v u Q I rx ry ⟨a, b, xs, ys, rfl, rfl, ha, hb, hz, q0, q1, q2⟩
  by_cases hx : xs = []
  · exact op_catA pins s σ H _ _ v u Q I rx ry ⟨a, b, xs, ys, rfl, rfl, ha, hb, hz, q0, fun h => absurd hx h, fun h => absurd hx h⟩
  · by_cases hy : ys = []
    · exact op_catA pins s σ H _ _ v u Q I rx ry ⟨a, b, xs, ys, rfl, rfl, ha, hb, hz, q0, q1, fun _ h => absurd hy h⟩
    · cases rx
      cases ry
      obtain ⟨us, r1, p1, _⟩ := I.tuple ha
      obtain ⟨ws, r2, p2, _⟩ := I.tuple hb
      refine HT.cat_tup p1 p2 (fun z => hx (r1.nil_iff.mp z)) (fun z => absurd (r2.nil_iff.mp z) hy) (fun z => ?_) (by rw [← r1.length, ← r2.length]; exact hz)
      exact ⟨.ref s.heap.objs.size, _, I.laid (t' := s.toks) (o := .frz { cls := .type "tuple", data := .seq (us ++ ws).toArray } (.tup (xs ++ ys))) (fun b u e => Heap.get?_push_of_some _ e) (Nat.le_refl _) ⟨Heap.get?_push_size _ rfl, by rw [List.length_append]; exact hz, _, r1.append r2, IsTup.new _ _⟩, rfl, q2 hx hy _ _ (I.hok.fresh (Nat.le_refl _)) rfl rfl⟩
theorem op_catZ_k {X : Cx} {K : PySem.W.Frag} (h : X.K = K := by rfl) : OpR X (binaryOp .Add) (rCatZ K) := h ▸ op_catZ
def tBMZ (r : V → List V → Hp → VK → Prop) (to : TE) (t : TA) : TE := fun σ H Q => to σ H fun x H1 => (∃ p xs, x = .ref p ∧ Zt H1 p xs) ∧ t σ H1 fun vs H2 => r x vs H2 Q
theorem pe_bmZ {X : Cx} {o e : Expr} {es : List Expr} {to : TE} {t : TA} {name : Str} {apos cpos : Pos} {id : String} {r : V → List V → Hp → VK → Prop} (pa : PlainAttrs "tuple") (slot : Slot "tuple" name id) (hty : typeOf (.builtin id) = pure (.type "method_descriptor")) (hm : MtR X id r) (ho : PE X o to) (ha : PA X (e :: es) t)
    (hbase : attributeBase o name X.env (eval o X.env) = eval o X.env := by rfl)
    (hfew : ((backTo cpos (starEach (e :: es) X.env)).all (fun x => !x.1) && (backToKw cpos (keywordEach [] X.env)).all (fun x => x.1.isSome) && decide ((e :: es).length + ([] : List Keyword).length + (if ([] : List Keyword).isEmpty then 0 else 1) < 30)) = true := by rfl)
    (hl : (apos.endLine == cpos.line) = true := by rfl) (hs : starEach (e :: es) X.env = (false, eval e X.env) :: starEach es X.env := by rfl) (hp : (backTo cpos (starEach es X.env)).any (·.1) = false := by rfl) :
    PE X (.Call (.Attribute o name apos) (e :: es) [] cpos) (tBMZ r to t) := by
  refine ⟨fun pins s σ H Q I h => wpAny_Call_method_late hbase hfew hl rfl (thn (ho.run pins s σ H _ I h) fun v s1 ⟨x, H1, I1, r1, ⟨p, xs, ex, ⟨ob, hz, hc, hd⟩⟩, q1⟩ => ?_)⟩
  subst ex
  obtain rfl : v = Value.ref p := r1
  have hob : s1.heap.get? p = some ob := (show ObjOk X.prog X.w H1 s1.heap p (.frz ob (.tup xs)) from I1.hok p _ hz).1
  refine ⟨"tuple", id, pa, slot, hty, ⟨ob, hob, hc⟩, fun a e => ?_, ?_⟩
  · cases e
    exact ⟨ob, hob, hd⟩
  have hA := ha.run cpos pins s1 σ H1 _ I1 q1
  rw [hs] at hA ⊢
  exact Calls.callWith_builtin (by show (false || (backTo cpos (starEach es X.env)).any (·.1)) = false; rw [hp]; rfl) (Calls.evalArgs_plain (thn hA fun us s2 ⟨vs, H2, I2, r2, q2⟩ => hm pins s2 σ H2 (.ref p) vs (.ref p) us Q I2 rfl r2 q2))
section
variable {K : PySem.W.Frag} {σ : L2.St} {G H : Hp} {te ta tb to : TE} {tr : TA} {r : List (List Nat)} {n : List Nat} {xs ys : List V}
theorem er_tix (ho : Er K to σ H (zU (vsl r))) (h : Era K tr σ H [.s (S n)]) (hn : n ∈ r) : Er K (tBMZ (rTix K) to tr) σ H (.i ((r.idxOf n : Nat) : Int)) := fun H1 e Q q =>
  ho H1 e _ fun v H2 e2 ⟨p, ev, z⟩ => ⟨⟨p, _, ev, z⟩, h H2 (e.trans e2) _ fun vs H3 e3 zs => by
    rcases zs with _ | ⟨rfl, _ | _⟩
    obtain ⟨h1, h2⟩ := ix_of hn
    refine ⟨p, r.map S, S n, r.idxOf n, ev, rfl, (z.mono e3).sq, by rw [List.getElem?_map, h1]; rfl, fun m hm e => ?_, q _ H3 (e2.trans e3) rfl⟩
    rw [List.getElem?_map] at e
    cases q : r[m]? with
    | none => rw [q] at e; cases e
    | some l =>
      rw [q] at e
      exact h2 m hm (by rw [q, S_inj (Option.some.inj e)])⟩
/-- what a growing list may keep -/
theorem ef_tupZ (h : Era K tr σ G (xs.map Dd.v)) (hl : xs.length ≤ 100000) : Ef K (tTupZ tr) σ G (zU xs) := fun G1 A e1 e2 Q q =>
  h A (e1.trans e2) _ fun ws H2 e z => by
    obtain rfl := flat_all z
    exact ⟨sz_of hl, fun p o hp hc hd => q _ (upd G1 p (.frz o (.tup ws))) _ ((Step.on e2 e).trans (Step.new (e2.trans e) hp)) ⟨p, rfl, o, upd_same, hc, hd⟩⟩
theorem ef_ctupZ (h : Ef K te σ G (.l xs)) : Ef K (tCB (rTupZ K) (tCons te tNil)) σ G (zU xs) := fun G1 A e1 e2 Q q =>
  h G1 A e1 e2 _ fun v G2 A2 s ⟨p, ev, hp⟩ => ⟨p, xs, by rw [ev], ex_l s.v hp, fun l o hl hc hd => q _ (upd G2 l (.frz o (.tup xs))) _ (s.trans (Step.new s.v hl)) ⟨l, rfl, o, upd_same, hc, hd⟩⟩
theorem ef_slT {tl th : TO} {lo hi : Option Int} (h : Ef K te σ G (.u xs)) (h1 : EvO tl σ G lo) (h2 : EvO th σ G hi) : Ef K (tSl (rSlA K) te tl th) σ G (.u (cutV xs lo hi)) := fun G1 A e1 e2 Q q =>
  h G1 A e1 e2 _ fun v G2 A2 s ⟨p, ev, hp⟩ => h1 A2 ((e1.trans e2).trans s.a) _ fun A3 e3 => h2 A3 (((e1.trans e2).trans s.a).trans e3) _ fun A4 e4 => by
    subst ev
    have s4 : Step G1 A G2 A4 := s.trans (Step.on s.v (e3.trans e4))
    refine ⟨p, xs, rfl, ex_t s4.v hp, fun hw => q _ G2 A4 s4 ⟨p, rfl, ?_⟩, fun _ l hl => q _ (upd G2 l (.tup (cutV xs lo hi))) _ (s4.trans (Step.new s4.v hl)) ⟨l, rfl, st_of upd_same⟩⟩
    have : cutV xs lo hi = xs := by
      unfold cutV
      rw [hw.1, hw.2, List.drop_zero, Nat.sub_zero, List.take_length]
    rw [this]
    exact hp
/-- t + u: new, or u itself -/
theorem ef_catZl (ha : Ef K ta σ G (.u xs)) (hb : Ef K tb σ G (zU ys)) (hy : ys ≠ []) (hz : xs.length + ys.length ≤ 100000) : Ef K (tOp (rCatZ K) ta tb) σ G (zU (xs ++ ys)) := fun G1 A e1 e2 Q q =>
  ha G1 A e1 e2 _ fun v G2 A2 s2 ⟨p, ev, hp⟩ => hb G2 A2 (e1.trans s2.g) s2.v _ fun w G3 A3 s3 ⟨p', ew, hp'⟩ => by
    subst ev ew
    have s := s2.trans s3
    refine ⟨p, p', xs, ys, rfl, rfl, ex_t (s3.g.trans s.v) hp, (hp'.mono s.v).sq, sz_of hz, fun hx => q _ G3 A3 s ⟨p', rfl, by rw [hx]; exact hp'⟩, fun _ h => absurd h hy, fun _ _ l o hl hc hd => q _ (upd G3 l (.frz o (.tup (xs ++ ys)))) _ (s.trans (Step.new s.v hl)) ⟨l, rfl, o, upd_same, hc, hd⟩⟩
/-- t + u: new, or t itself -/
theorem ef_catZr (ha : Ef K ta σ G (zU xs)) (hb : Ef K tb σ G (.u ys)) (hx : xs ≠ []) (hz : xs.length + ys.length ≤ 100000) : Ef K (tOp (rCatZ K) ta tb) σ G (zU (xs ++ ys)) := fun G1 A e1 e2 Q q =>
  ha G1 A e1 e2 _ fun v G2 A2 s2 ⟨p, ev, hp⟩ => hb G2 A2 (e1.trans s2.g) s2.v _ fun w G3 A3 s3 ⟨p', ew, hp'⟩ => by
    subst ev ew
    have s := s2.trans s3
    refine ⟨p, p', xs, ys, rfl, rfl, (hp.mono (s3.g.trans s.v)).sq, ex_t s.v hp', sz_of hz, fun h => absurd h hx, fun _ hy => q _ G3 A3 s ⟨p, rfl, by rw [hy, List.append_nil]; exact hp.mono s3.g⟩, fun _ _ l o hl hc hd => q _ (upd G3 l (.frz o (.tup (xs ++ ys)))) _ (s.trans (Step.new s.v hl)) ⟨l, rfl, o, upd_same, hc, hd⟩⟩
end
end Mi

set_option maxHeartbeats 2000000
theorem L2.Room.units2 {k : Nat} {A : PySem.Around} (r : L2.Room k A) : A.units + 2 < PySem.cLine := by have := r.un; omega
theorem L2.Room.units65 {k : Nat} {A : PySem.Around} (r : L2.Room k A) : A.units + 65 < PySem.cLine := by have := r.un; omega
namespace Mi
open PySem PySem.Spec PyProof.Rows L2 Evl

/-! ### x in t, t a list or a tuple of data -/
def rInX (K : PySem.W.Frag) (neg : Bool) : R2 := fun x y H Q => ∃ d ds, Dp K H x d ∧ (Dp K H y (.list ds) ∨ Dp K H y (.tuple ds)) ∧ PyData.canLay0 d = true ∧ PyData.canLayAll0 ds = true ∧ PyData.depth d ≤ 60 ∧ Q (.bl (if neg then !(ds.any fun z => PyData.eqv z d) else ds.any fun z => PyData.eqv z d)) H
theorem room_inX {A : Around} {d : PyData} {ds : List PyData} (hd : PyData.depth d ≤ 60) (hu : A.units + 65 < cLine) : A.units + 1 + min (PyData.depthAll ds) d.depth < cLine := by
  have : min (PyData.depthAll ds) d.depth ≤ d.depth := Nat.min_le_right _ _
  omega
theorem op_inX {X : Cx} (hu : X.A.units + 65 < cLine) : OpR X (compareOp .In) (rInX X.K false) := by
  rintro pins s σ H x y v u Q I rx ry ⟨d, ds, hd, hy, c1, c2, dp, q⟩
  obtain ⟨as, r1⟩ := Dp.reads I d x v hd rx
  rcases hy with hy | hy
  · obtain ⟨bs, r2⟩ := Dp.reads I _ y u hy ry
    exact SeqAt.in_list_reads r2 r1 c2 c1 (room_inX dp hu) ⟨.bl _, H, I, rfl, q⟩
  · obtain ⟨bs, r2⟩ := Dp.reads I _ y u hy ry
    exact SeqAt.in_tuple_reads r2 r1 c2 c1 (room_inX dp hu) ⟨.bl _, H, I, rfl, q⟩
theorem op_niX {X : Cx} (hu : X.A.units + 65 < cLine) : OpR X (compareOp .NotIn) (rInX X.K true) := by
  rintro pins s σ H x y v u Q I rx ry ⟨d, ds, hd, hy, c1, c2, dp, q⟩
  obtain ⟨as, r1⟩ := Dp.reads I d x v hd rx
  rcases hy with hy | hy
  · obtain ⟨bs, r2⟩ := Dp.reads I _ y u hy ry
    exact SeqAt.notIn_list_reads r2 r1 c2 c1 (room_inX dp hu) ⟨.bl _, H, I, rfl, q⟩
  · obtain ⟨bs, r2⟩ := Dp.reads I _ y u hy ry
    exact SeqAt.notIn_tuple_reads r2 r1 c2 c1 (room_inX dp hu) ⟨.bl _, H, I, rfl, q⟩
theorem op_inX_k {X : Cx} {K : PySem.W.Frag} (hu : X.A.units + 65 < cLine) (h : X.K = K := by rfl) : OpR X (compareOp .In) (rInX K false) := h ▸ op_inX hu
theorem op_niX_k {X : Cx} {K : PySem.W.Frag} (hu : X.A.units + 65 < cLine) (h : X.K = K := by rfl) : OpR X (compareOp .NotIn) (rInX K true) := h ▸ op_niX hu
abbrev rwP (r : List (List Nat)) : PyData := .tuple (r.map fun l => PyData.str (S l))
theorem any_rows {r : List (List Nat)} : ∀ rs : List (List (List Nat)), (rs.map rwP).any (fun z => PyData.eqv z (rwP r)) = decide (r ∈ rs)
  | [] => by simp
  | a :: rs => by
    rw [List.map_cons, List.any_cons, any_rows rs]
    have : PyData.eqv (rwP a) (rwP r) = decide (a = r) := by
      show PyData.eqvAll _ _ = _
      exact eqv_strs a r
    rw [this]
    by_cases h : a = r
    · simp [h]
    · have h2 : ¬ r = a := fun z => h z.symm
      simp [h, h2]
theorem lay_rows : ∀ {rs : List (List (List Nat))}, (∀ r ∈ rs, ∀ l ∈ r, okT l) → PyData.canLayAll0 (rs.map rwP) = true
  | [], _ => by simp [PyData.canLayAll0]
  | a :: rs, h => by
    have h1 := (canLay_strs a (h a (List.mem_cons_self ..))).1
    simp [PyData.canLayAll0, PyData.canLay0, lay_rows (rs := rs) fun r hr => h r (List.mem_cons_of_mem _ hr), h1]
section
variable {K : PySem.W.Frag} {σ : L2.St} {G H A : Hp} {te ta tb tl ti tv : TE} {tr : TA} {d e : Dd} {D : Ends} {tu tz : TS} {x : V}
theorem dp_rows {f : List (List Nat) → Dd} (hf : ∀ {r H v}, Is K H (f r) v → Is K H (.u (vsl r)) v) : ∀ {rs : List (List (List Nat))} {vs : List V}, IsE K H (rs.map f) vs → DpAll K H vs (rs.map rwP)
  | [], vs, h => by rw [show vs = [] from h]; exact .nil
  | r :: rs, vs, h => by
    obtain ⟨y, s, rfl, a, b⟩ := h
    obtain ⟨p, rfl, hp⟩ := hf a
    exact .cons (.tup hp (dpAll_strs r)) (dp_rows hf b)
theorem ro_inRows {neg : Bool} {f : List (List Nat) → Dd} (hf : ∀ {r H v}, Is K H (f r) v → Is K H (.u (vsl r)) v) {r : List (List Nat)} {rs : List (List (List Nat))} (h1 : ∀ l ∈ r, okT l) (h2 : ∀ r ∈ rs, ∀ l ∈ r, okT l) {d : Dd} (hd : d = .L (rs.map f) ∨ d = .U (rs.map f)) :
    Ro K (rInX K neg) (.u (vsl r)) d (.b (if neg then !decide (r ∈ rs) else decide (r ∈ rs))) := by
  rintro _ y H1 ⟨p, rfl, hp⟩ hy Q q
  have hc := canLay_strs r h1
  refine ⟨rwP r, rs.map rwP, .tup hp (dpAll_strs r), ?_, by simp [PyData.canLay0, hc.1], lay_rows h2, by simp [PyData.depth, hc.2], q _ H1 (Ex.refl H1) ?_⟩
  · rcases hd with rfl | rfl
    · obtain ⟨p2, vs, rfl, hp2, hE⟩ := hy
      exact .inl (.lst hp2 (dp_rows hf hE))
    · obtain ⟨p2, vs, rfl, hp2, hE⟩ := hy
      exact .inr (.tup hp2 (dp_rows hf hE))
  · rw [any_rows]
    rfl
/-! ### range(a, b), reversed(range(n)) -/
theorem if_range2 {a b : Nat} (h : Era K tr σ G [.i (a : Int), .i (b : Int)]) (ha : a ≤ 100000) (hb : b ≤ 100000) : Itf K (iRng2 tr) σ G ((List.range (b - a)).map fun i : Nat => Dd.i ((a + i : Nat) : Int)) := fun G1 A e1 e2 R r =>
  h A (e1.trans e2) _ fun vs A2 ea z => by
    rcases z with _ | ⟨rfl, _ | ⟨rfl, _ | _⟩⟩
    refine ⟨(a : Int), (b : Int), rfl, ⟨by omega, by omega, by omega, by omega⟩, r _ G1 A2 (.on e2 ea) fun i G' A' e3 e4 => ⟨fun d hd => ?_, fun hi => ?_⟩⟩
    · have hi : i < b - a := by
        have := (List.getElem?_eq_some_iff.mp hd).1
        simpa using this
      rw [List.getElem?_map, List.getElem?_range hi] at hd
      have ed := Option.some.inj hd
      refine ⟨show i < ((b : Int) - (a : Int)).toNat by omega, fun v A'' hyl => ?_⟩
      obtain ⟨rfl, rfl⟩ := hyl
      exact ⟨G', .refl e4, by rw [← ed]; show V.int _ = V.int _; rw [Int.natCast_add]⟩
    · show ((b : Int) - (a : Int)).toNat ≤ i
      rw [List.length_map, List.length_range] at hi
      omega
theorem if_rev {n : Nat} (h : Er K te σ G (.i (n : Int))) (hn : n ≤ 100000) : Itf K (iRevR (tRg1 te)) σ G ((List.range n).map fun i : Nat => Dd.i ((n - 1 - i : Nat) : Int)) := fun G1 A e1 e2 R r =>
  h A (e1.trans e2) _ fun v A2 ea z => by
    obtain rfl : v = V.int (n : Int) := z
    refine ⟨(n : Int), rfl, by omega, by omega, by omega, by omega, r _ G1 A2 (.on e2 ea) fun i G' A' e3 e4 => ⟨fun d hd => ?_, fun hi => ?_⟩⟩
    · have hi : i < n := by
        have := (List.getElem?_eq_some_iff.mp hd).1
        simpa using this
      rw [List.getElem?_map, List.getElem?_range hi] at hd
      have ed := Option.some.inj hd
      refine ⟨show i < ((n : Int) - 0).toNat by omega, fun v A'' hyl => ?_⟩
      obtain ⟨rfl, rfl⟩ := hyl
      refine ⟨G', .refl e4, ?_⟩
      rw [← ed]
      show V.int _ = V.int _
      congr 1
      omega
    · show ((n : Int) - 0).toNat ≤ i
      rw [List.length_map, List.length_range] at hi
      omega
/-! ### xs.insert(i, x); n += e -/
def rIns : V → List V → Hp → VK → Prop := fun x vs H Q => ∃ (l : Addr) (xs : List V) (i : Int) (y : V), x = .ref l ∧ vs = [.int i, y] ∧ H l = some (.lst xs) ∧ xs.length < sizeLine ∧ 0 ≤ i ∧ i < 2 ^ 63 ∧ Q .non (upd H l (.lst (xs.take i.toNat ++ [y] ++ xs.drop i.toNat)))
theorem mt_insN {X : Cx} : MtR X "list.insert" rIns := mt_insert
theorem a_ins {l : Addr} {us : List V} {i : Nat} (hl : H l = some (.lst us)) (ha : Er K tl σ H (.v (.ref l))) (h : Era K tr σ H [.i (i : Int), .v x]) (hz : us.length < 100000) (hi : i ≤ 100000) (k : ∀ H1, Ex H H1 → D.nx σ (upd H1 l (.lst (us.take i ++ [x] ++ us.drop i)))) :
    tDrop (tBM K "list" rIns tl tr) D σ H := ha H (Ex.refl H) _ fun v H1 e1 z1 => by
  obtain rfl : v = .ref l := z1
  have h1 := e1 l _ hl
  refine ⟨Or.inl ⟨rfl, us, sq_of h1⟩, h H1 e1 _ fun vs H2 e2 z => ?_⟩
  rcases z with _ | ⟨rfl, _ | ⟨rfl, _ | _⟩⟩
  refine ⟨l, us, (i : Int), _, rfl, rfl, e2 l _ h1, sz_lt hz, by omega, by omega, ?_⟩
  rw [Int.toNat_natCast]
  exact k H2 (e1.trans e2)
theorem a_aug {i : Nat} {a b : Int} (hi : σ[i]? = some (some (.int a))) (h : Er K te σ H (.i b)) (k : ∀ H1, Ex H H1 → D.nx (σ.set i (some (.int (a + b)))) H1) : tAug i te (ipI fun i j => i + j) D σ H :=
  ⟨_, hi, h H (Ex.refl H) _ fun v H1 e z => by
    obtain rfl : v = .int b := z
    exact ⟨a, b, rfl, rfl, k H1 e⟩⟩
end

/-! ### defs that raise -/
structure HasX (P : Program) (w : World) (K : PySem.W.Frag) (mg : Str → Option Value) (base : Heap) (k : Nat) (x : Str) (ps : List Str) (sp : Sp) : Prop where
  ex : ∃ f fd, mg x = some (.ref f) ∧ PySem.W.keepIn K (.ref f) = true ∧ FnOk P w K mg base (L2N.CX P w) k f fd ps sp ∧ Binds K fd ps []
structure HasXW (P : Program) (w : World) (K : PySem.W.Frag) (mg : Str → Option Value) (base : Heap) (k : Nat) (x : Str) (ps : List Str) (sp : Sp) : Prop where
  ex : ∃ f fd, mg x = some (.ref f) ∧ PySem.W.keepIn K (.ref f) = true ∧ FnOk P w K mg base (L2N.CX P w) k f fd ps sp ∧ ∀ (s : Shared) (ws : List Value), ws.length = ps.length → BindsTo s fd ⟨[], ps.reverse.zip ws⟩ (ps.zip ws.reverse)
theorem Fun.okN {P : Program} {w : World} {K : PySem.W.Frag} {mg : Str → Option Value} {base : Heap} {x qual : Str} {st : Stmt} {f : Addr} {fd : FuncData} {N ps : List Str} {k : Nat} {sp : Sp} (F : Fun K x qual st f fd) (Sc : FnScope N ps (defScope st)) (len : ∀ vs H Q E, sp vs H Q E → vs.length = ps.length)
    (hb : ∀ (cdv : Value) (A : Around) (outer : List Env) (s : Shared) (H : Hp) (vs : List V) (Q : VK) (E : XK), Room k (A.deeper (envOfC qual (defScope st) s.heap.objs.size f cdv)) → sp vs H Q E → ∃ t, PSs (cxOf (L2N.CX P w) P w K mg base N qual (defScope st) f cdv A outer s H E) (defBody st) t ∧ t { nx := fun _ H' => Q .non H', rt := Q } (start N vs) H) :
    FnOk P w K mg base (L2N.CX P w) (k + 1) f fd ps sp := by
  obtain ⟨oc, od, kV, doc, pm, an, cdv, ct, osl, rfl, lk, hcd⟩ := F.ex
  exact fn_of (CX := L2N.CX P w) lk hcd Sc len fun A outer s H vs Q E hr q => hb cdv A outer s H vs Q E hr q
theorem At.hasX {P : Program} {w : World} {K : PySem.W.Frag} {mg : Str → Option Value} {base : Heap} {x : Str} {st : Stmt} {ps : List Str} {k : Nat} {sp : Sp} (h : At K mg x st ps) (hf : ∀ {f fd}, Fun K x x st f fd → FnOk P w K mg base (L2N.CX P w) k f fd ps sp) : HasX P w K mg base k x ps sp := by
  obtain ⟨f, fd, hm, F, b0, _⟩ := h.ex
  exact ⟨f, fd, hm, F.kp, hf F, b0⟩
theorem AtW.hasX {P : Program} {w : World} {K : PySem.W.Frag} {mg : Str → Option Value} {base : Heap} {x : Str} {st : Stmt} {ps : List Str} {k : Nat} {sp : Sp} (h : AtW K mg x st ps) (hf : ∀ {f fd}, Fun K x x st f fd → FnOk P w K mg base (L2N.CX P w) k f fd ps sp) : HasXW P w K mg base k x ps sp := by
  obtain ⟨f, fd, hm, F, b⟩ := h.ex
  exact ⟨f, fd, hm, F.kp, hf F, b⟩
theorem pe_callX {X : Cx} {W : WX} {k : Nat} {x : Str} {ps : List Str} {sp : Sp} {p pos : Pos} {e : Expr} {es : List Expr} {t : TA} (F : HasX X.prog X.w X.K X.mg X.base k x ps sp) (tk : L2N.Takes X W) (hr : Room k X.A) (ha : PA X (e :: es) t) (hg : Gl X x := by rfl) (hdb : (x == ("__debug__" : Str)) = false := by decide)
    (he : starEach (e :: es) X.env = (false, eval e X.env) :: starEach es X.env := by rfl) (hpl : (backTo pos (starEach es X.env)).any (·.1) = false := by rfl) : PE X (.Call (.Name x p) (e :: es) [] pos) (tCallS sp (WE W) t) := by
  obtain ⟨f, fd, hm, hk, F, hb⟩ := F.ex
  exact pe_callS F hr hg hm hk hb (fun σ => L2N.passAt tk σ) ha hdb he hpl
def tCallSW (sp : Sp) (E : L2.St → XK) (t : TA) : TE := fun σ H Q => t σ H fun vs H1 => sp vs.reverse H1 Q (E σ)
theorem pe_callXW {X : Cx} {W : WX} {k : Nat} {ps : List Str} {sp : Sp} {x : Str} {p pos : Pos} {kws : List Keyword} {t : TA} (F : HasXW X.prog X.w X.K X.mg X.base k x ps sp) (tk : L2N.Takes X W) (hr : Room k X.A) (hkw : PK X kws t) (hg : Gl X x := by rfl) (hdb : (x == ("__debug__" : Str)) = false := by decide)
    (hall : (backToKw pos (keywordEach kws X.env)).all (·.1.isSome) = true := by rfl) (hks : (backToKw pos (keywordEach kws X.env)).filterMap (·.1) = ps.reverse := by rfl) (hpl : (backToKw pos (keywordEach kws X.env)).any (·.1.isNone) = false := by rfl) :
    PE X (.Call (.Name x p) [] kws pos) (tCallSW sp (WE W) t) := by
  obtain ⟨f, fd, hm, hk, F, hb⟩ := F.ex
  refine ⟨fun pins s σ H Q I h => wpAny_Call_Name_kw (ld_glob I hg hm (PySem.W.callWith_KW0 (h₀ := X.base) I.ok.mod.kin hk hall (thn (hkw.run pos pins s σ H _ I h) fun ws s2 ⟨zs, H2, I2, rz, q2⟩ => ⟨I2.kIn, ?_⟩) hpl) hdb)⟩
  rw [hks]
  have hl := F.len _ _ _ _ q2
  rw [List.length_reverse] at hl
  have hw : ws.length = ps.length := by rw [← rz.length]; exact hl
  refine wpAny_call (codeAny_mono (F.run X.A X.stack s2 H2 ⟨[], ps.reverse.zip ws⟩ ws.reverse zs.reverse Q (WE W σ) hr I2.env0 (hb s2 ws hw) rz.reverse q2) fun r s' hq => ?_)
  match r, hq with
  | .error e, hq => exact L2N.passAt tk σ pins H2 s2 e s' I2 hq
  | .ok (.ret u), hq => exact I2.after hq
  | .ok .next, hq => exact hq.elim
  | .ok .brk, hq => exact hq.elim
  | .ok .cont, hq => exact hq.elim
/-- a def that answers, or raises -/
def spX (K : PySem.W.Frag) {T : Type} (pre : T → Prop) (args : T → List Dd) (ok : T → Bool) (ret : T → Dd) (er : T → Value → Option Addr → Hp → Prop) : Sp := fun vs H Q E => ∃ a : T, pre a ∧ IsAll K H (args a) vs ∧ (ok a = true → ∀ v H', Ex H H' → Is K H' (ret a) v → Q v H') ∧ (ok a = false → ∀ cls d H', Ex H H' → er a cls d H' → E cls d H')
theorem Fun.okXs {P : Program} {w : World} {K : PySem.W.Frag} {mg : Str → Option Value} {base : Heap} {x qual : Str} {st : Stmt} {f : Addr} {fd : FuncData} {N ps : List Str} {k : Nat} {T : Type} {pre : T → Prop} {args : T → List Dd} {ok : T → Bool} {ret : T → Dd} {er : T → Value → Option Addr → Hp → Prop} (F : Fun K x qual st f fd) (Sc : FnScope N ps (defScope st)) (hl : ∀ a, (args a).length = ps.length)
    (hb : ∀ (cdv : Value) (A : Around) (outer : List Env) (s : Shared) (H : Hp) (a : T) (vs : List V) (Q : VK) (E : XK), Room k (A.deeper (envOfC qual (defScope st) s.heap.objs.size f cdv)) → pre a → IsAll K H (args a) vs → (ok a = true → ∀ v H', Ex H H' → Is K H' (ret a) v → Q v H') → (ok a = false → ∀ cls d H', Ex H H' → er a cls d H' → E cls d H') →
      ∃ t, PSs (cxOf (L2N.CX P w) P w K mg base N qual (defScope st) f cdv A outer s H E) (defBody st) t ∧ t { nx := fun _ H' => Q .non H', rt := Q } (start N vs) H) : FnOk P w K mg base (L2N.CX P w) (k + 1) f fd ps (spX K pre args ok ret er) :=
  Fun.okN F Sc (fun vs H Q E ⟨a, _, hv, _⟩ => by rw [← hv.len, hl]) fun cdv A outer s H vs Q E hr ⟨a, hp, hv, h1, h2⟩ => hb cdv A outer s H a vs Q E hr hp hv h1 h2
section
variable {K : PySem.W.Frag} {σ : L2.St} {G H A : Hp} {te : TE} {tr : TA} {d : Dd} {D : Ends} {tu tz : TS} {W : WX} {T : Type} {pre : T → Prop} {args : T → List Dd} {ok : T → Bool} {ret : T → Dd} {er : T → Value → Option Addr → Hp → Prop}
theorem x_ret {ds : List Dd} (a : T) (h : Era K tr σ H ds) (hd : ds = args a) (hp : pre a) (h1 : ok a = true → ∀ v H', Ex H H' → Is K H' (ret a) v → D.rt v H') (h2 : ok a = false → ∀ cls d H', Ex H H' → er a cls d H' → W cls d σ H') : tRet (tCallS (spX K pre args ok ret er) (WE W) tr) D σ H :=
  h H (Ex.refl H) _ fun vs H1 e z => ⟨a, hp, hd ▸ z, fun q v H' e2 hv => h1 q v H' (e.trans e2) hv, fun q cls d H' e2 hv => h2 q cls d H' (e.trans e2) hv⟩
theorem x_retW {ds : List Dd} (a : T) (h : Era K tr σ H ds) (hd : ds.reverse = args a) (hp : pre a) (h1 : ok a = true → ∀ v H', Ex H H' → Is K H' (ret a) v → D.rt v H') (h2 : ok a = false → ∀ cls d H', Ex H H' → er a cls d H' → W cls d σ H') : tRet (tCallSW (spX K pre args ok ret er) (WE W) tr) D σ H :=
  h H (Ex.refl H) _ fun vs H1 e z => ⟨a, hp, hd ▸ isAll_rev z, fun q v H' e2 hv => h1 q v H' (e.trans e2) hv, fun q cls d H' e2 hv => h2 q cls d H' (e.trans e2) hv⟩
theorem x_drop {ds : List Dd} (a : T) (h : Era K tr σ H ds) (hd : ds = args a) (hp : pre a) (h1 : ok a = true → ∀ H', Ex H H' → D.nx σ H') (h2 : ok a = false → ∀ cls d H', Ex H H' → er a cls d H' → W cls d σ H') : tDrop (tCallS (spX K pre args ok ret er) (WE W) tr) D σ H :=
  h H (Ex.refl H) _ fun vs H1 e z => ⟨a, hp, hd ▸ z, fun q v H' e2 hv => h1 q H' (e.trans e2), fun q cls d H' e2 hv => h2 q cls d H' (e.trans e2) hv⟩
/-- where it is known that it answers -/
theorem er_callX {ds : List Dd} (a : T) (h : Era K tr σ H ds) (hd : ds = args a) (hp : pre a) (ho : ok a = true) : Er K (tCallS (spX K pre args ok ret er) (WE W) tr) σ H (ret a) := fun H1 e Q q =>
  h H1 e _ fun vs H2 e2 z => ⟨a, hp, hd ▸ z, fun _ v H' e3 hv => q v H' (e2.trans e3) hv, fun z => by rw [ho] at z; cases z⟩
end
end Mi

set_option maxHeartbeats 2000000
namespace Mi
open PySem PySem.Spec PyProof.Rows L2 Evl
/-! ### two neighbours exchanged, again and again -/
abbrev Row := List (List Nat)
def exch (r : Row) (a : Nat) : Row := r.take a ++ [r.getD (a + 1) [], r.getD a []] ++ r.drop (a + 2)
theorem exch_form {p s : Row} {m x : List Nat} : exch (p ++ m :: x :: s) p.length = p ++ x :: m :: s := by
  unfold exch
  have h1 : (p ++ m :: x :: s).take p.length = p := by simp
  have h2 : (p ++ m :: x :: s).getD (p.length + 1) [] = x := by
    rw [List.getD_eq_getElem?_getD, List.getElem?_append_right (by omega)]
    simp
  have h3 : (p ++ m :: x :: s).getD p.length [] = m := by
    rw [List.getD_eq_getElem?_getD, List.getElem?_append_right (by omega)]
    simp
  have h4 : (p ++ m :: x :: s).drop (p.length + 2) = s := by
    rw [List.drop_append]
    simp
  rw [h1, h2, h3, h4]
  simp
/-- after i exchanges from place a on -/
def stE (r : Row) (a : Nat) : Nat → Row
  | 0 => r
  | i + 1 => exch (stE r a i) (a + i)
theorem stE_form {q b s : Row} {m : List Nat} : ∀ i, i ≤ b.length → stE (q ++ m :: (b ++ s)) q.length i = q ++ (b.take i ++ m :: (b.drop i ++ s))
  | 0, _ => by simp [stE]
  | i + 1, h => by
    have hi : i < b.length := by omega
    rw [stE, stE_form i (by omega)]
    have e : b.drop i = b[i] :: b.drop (i + 1) := List.drop_eq_getElem_cons hi
    have e2 : q ++ (b.take i ++ m :: (b.drop i ++ s)) = (q ++ b.take i) ++ m :: b[i] :: (b.drop (i + 1) ++ s) := by
      have e0 : b.drop i ++ s = b[i] :: (b.drop (i + 1) ++ s) := by rw [e, List.cons_append]
      rw [e0, List.append_assoc]
    have e3 : q.length + i = (q ++ b.take i).length := by
      rw [List.length_append, List.length_take]
      omega
    rw [e2, e3, exch_form]
    have e4 : b.take (i + 1) = b.take i ++ [b[i]] := by
      rw [List.take_add_one, List.getElem?_eq_getElem hi]
      rfl
    rw [e4, List.append_assoc, List.append_assoc]
    rfl
def exTo (r : Row) (n : List Nat) (pl : Nat) : List Row := (List.range (pl - r.idxOf n)).map fun j => stE r (r.idxOf n) (j + 1)
def lastR (w : List Row) : Row := w.getLastD []
/-- the way after i places, from the last one on -/
def wayN (r g : Row) : Nat → List Row
  | 0 => [r]
  | i + 1 => wayN r g i ++ exTo (lastR (wayN r g i)) (g.getD (g.length - 1 - i) []) (g.length - 1 - i)

/-! ### the number of pairs that stand the other way round -/
def invN (g : Row) : Row → Nat
  | [] => 0
  | a :: r => (r.filter fun b => decide (g.idxOf b < g.idxOf a)).length + invN g r
structure Sw (g : Row) (Z Z' : Row) : Prop where
  ex : ∃ p m x s gp suf t, Z = p ++ m :: x :: s ∧ Z' = p ++ x :: m :: s ∧ g.idxOf x < g.idxOf m ∧ g = gp ++ m :: suf ∧ s = t ++ suf
theorem inv_sw {g : Row} {m x : List Nat} {s : Row} (h : g.idxOf x < g.idxOf m) : ∀ p : Row, invN g (p ++ m :: x :: s) = invN g (p ++ x :: m :: s) + 1
  | [] => by
    have h2 : ¬ g.idxOf m < g.idxOf x := by omega
    simp only [List.nil_append, invN, List.filter_cons, h, h2, decide_true, decide_false, if_true, Bool.false_eq_true, if_false, List.length_cons]
    omega
  | a :: p => by
    have e : ((p ++ m :: x :: s).filter fun b => decide (g.idxOf b < g.idxOf a)).length = ((p ++ x :: m :: s).filter fun b => decide (g.idxOf b < g.idxOf a)).length := by
      refine List.Perm.length_eq (List.Perm.filter _ (List.Perm.append_left _ ?_))
      exact List.Perm.swap x m s
    have ih := inv_sw (s := s) h p
    rw [List.cons_append, List.cons_append, invN, invN, e, ih]
    omega
theorem Sw.inv {g Z Z' : Row} (h : Sw g Z Z') : invN g Z = invN g Z' + 1 := by
  obtain ⟨p, m, x, s, gp, suf, t, rfl, rfl, hx, _⟩ := h.ex
  exact inv_sw hx p
theorem Sw.perm {g Z Z' : Row} (h : Sw g Z Z') : Z'.Perm Z := by
  obtain ⟨p, m, x, s, gp, suf, t, rfl, rfl, hx, _⟩ := h.ex
  exact List.Perm.append_left _ (List.Perm.swap m x s)
theorem inv_self {g : Row} (hn : g.Nodup) : invN g g = 0 := by
  suffices h : ∀ s p : Row, g = p ++ s → invN g s = 0 from h g [] rfl
  intro s
  induction s with
  | nil => intro p _; rfl
  | cons a s ih =>
    intro p e
    have h1 := ih (p ++ [a]) (by rw [e]; simp)
    have ia : g.idxOf a = p.length := by
      have hna : a ∉ p := by
        rw [e] at hn
        exact fun z => (List.nodup_append.mp hn).2.2 a z a (List.mem_cons_self ..) rfl
      rw [e, List.idxOf_append, if_neg hna, List.idxOf_cons_self]
      simp
    have h2 : (s.filter fun b => decide (g.idxOf b < g.idxOf a)) = [] := by
      rw [List.filter_eq_nil_iff]
      intro b hb
      have hnb : b ∉ p ++ [a] := by
        rw [e] at hn
        have e2 : p ++ a :: s = (p ++ [a]) ++ s := by simp
        rw [e2] at hn
        exact fun z => (List.nodup_append.mp hn).2.2 b z b hb rfl
      have ib : p.length + 1 ≤ g.idxOf b := by
        rw [e, show p ++ a :: s = (p ++ [a]) ++ s by simp, List.idxOf_append, if_neg hnb]
        simp
      rw [ia]
      simp
      omega
    show _ + invN g s = 0
    rw [h1, h2]
    rfl
/-! ### the law's own count of these pairs -/
def turnN (r g : Row) : Nat := (r.map fun low => (r.filter fun high => decide (r.idxOf low < r.idxOf high) && decide (g.idxOf low > g.idxOf high)).length).sum
theorem turn_inv {g : Row} : ∀ {r : Row}, r.Nodup → turnN r g = invN g r
  | [], _ => rfl
  | a :: r, hn => by
    obtain ⟨ha, hr⟩ := List.nodup_cons.mp hn
    have ih := turn_inv (g := g) hr
    have ne : ∀ b ∈ r, b ≠ a := fun b hb z => ha (z ▸ hb)
    have idx : ∀ b ∈ r, (a :: r).idxOf b = r.idxOf b + 1 := fun b hb => by
      have : (a == b) = false := by simpa using fun z : a = b => ne b hb z.symm
      rw [List.idxOf_cons, this]
      rfl
    have ia : (a :: r).idxOf a = 0 := List.idxOf_cons_self
    unfold turnN
    rw [List.map_cons, List.sum_cons, invN]
    congr 1
    · rw [List.filter_cons, ia, if_neg (by simp)]
      congr 1
      refine List.filter_congr fun b hb => ?_
      rw [idx b hb]
      simp
    · rw [← ih]
      unfold turnN
      congr 1
      refine List.map_congr_left fun low hl => ?_
      rw [List.filter_cons, ia, if_neg (by simp)]
      congr 1
      refine List.filter_congr fun b hb => ?_
      rw [idx b hb, idx low hl]
      simp
/-! ### the way is a chain of such exchanges -/
theorem lastR_app {l : List Row} {b : Row} : lastR (l ++ [b]) = b := by
  unfold lastR
  rw [List.getLastD_concat]
theorem lastR_at {l : List Row} (h : l ≠ []) : l[l.length - 1]? = some (lastR l) := by
  unfold lastR
  rw [← List.getLast?_eq_getElem?, List.getLastD_eq_getLast?]
  cases q : l.getLast? with
  | none => exact absurd (List.getLast?_eq_none_iff.mp q) h
  | some x => rfl
structure ChW (g row : Row) (l : List Row) : Prop where
  z : l[0]? = some row
  c : ∀ k a b, l[k]? = some a → l[k + 1]? = some b → Sw g a b
theorem ChW.ne {g row : Row} {l : List Row} (h : ChW g row l) : l ≠ [] := fun e => by
  have := h.z
  rw [e] at this
  cases this
theorem ChW.push {g row b : Row} {l : List Row} (h : ChW g row l) (hs : Sw g (lastR l) b) : ChW g row (l ++ [b]) := by
  have hl : 0 < l.length := List.length_pos_iff.mpr h.ne
  refine ⟨by rw [List.getElem?_append_left hl]; exact h.z, fun k x y hx hy => ?_⟩
  by_cases q : k + 1 < l.length
  · rw [List.getElem?_append_left q] at hy
    rw [List.getElem?_append_left (by omega)] at hx
    exact h.c k x y hx hy
  · have hk : k + 1 = l.length := by
      have := (List.getElem?_eq_some_iff.mp hy).1
      rw [List.length_append, List.length_singleton] at this
      omega
    rw [hk, List.getElem?_append_right (by omega), Nat.sub_self] at hy
    obtain rfl : b = y := Option.some.inj hy
    rw [List.getElem?_append_left (by omega), show k = l.length - 1 by omega, lastR_at h.ne] at hx
    rw [← Option.some.inj hx]
    exact hs
/-- one place of the way: m goes to its place -/
structure WyP (g r : Row) (pl : Nat) (q b suf : Row) (m : List Nat) : Prop where
  e : r = q ++ m :: (b ++ suf)
  gg : g = g.take pl ++ m :: suf
  p : (q ++ b).Perm (g.take pl)
  l : pl < g.length
  n : g.Nodup
section
variable {g r : Row} {pl : Nat} {q b suf : Row} {m : List Nat}
theorem WyP.len (h : WyP g r pl q b suf m) : q.length + b.length = pl := by
  have := h.p.length_eq
  rw [List.length_append, List.length_take] at this
  have := h.l
  omega
theorem WyP.mg (h : WyP g r pl q b suf m) : m ∉ g.take pl := by
  have hn := h.n
  rw [h.gg] at hn
  exact fun z => (List.nodup_append.mp hn).2.2 m z m (List.mem_cons_self ..) rfl
theorem WyP.im (h : WyP g r pl q b suf m) : g.idxOf m = pl := by
  have hm := h.mg
  have hl := h.l
  generalize hg : g.take pl = t at hm
  have e := h.gg
  rw [hg] at e
  rw [e, List.idxOf_append, if_neg hm, List.idxOf_cons_self, ← hg, List.length_take]
  omega
theorem WyP.ix (h : WyP g r pl q b suf m) {x : List Nat} (hx : x ∈ b) : g.idxOf x < pl := by
  have h1 : x ∈ g.take pl := h.p.mem_iff.mp (List.mem_append_right _ hx)
  have e := h.gg
  generalize hg : g.take pl = t at h1 e
  have h2 := List.idxOf_lt_length_of_mem h1
  have h3 : g.idxOf x = t.idxOf x := by rw [e, List.idxOf_append, if_pos h1]
  rw [h3]
  have : t.length ≤ pl := by rw [← hg, List.length_take]; exact Nat.min_le_left _ _
  omega
theorem WyP.mq (h : WyP g r pl q b suf m) : m ∉ q ∧ m ∉ b := by
  have hm := h.mg
  exact ⟨fun z => hm (h.p.mem_iff.mp (List.mem_append_left _ z)), fun z => hm (h.p.mem_iff.mp (List.mem_append_right _ z))⟩
theorem WyP.st (h : WyP g r pl q b suf m) {j : Nat} (hj : j ≤ b.length) : stE r q.length j = q ++ (b.take j ++ m :: (b.drop j ++ suf)) := by
  rw [h.e]
  exact stE_form j hj
theorem WyP.at (h : WyP g r pl q b suf m) {j : Nat} (hj : j ≤ b.length) : (stE r q.length j).idxOf m = q.length + j := by
  obtain ⟨h1, h2⟩ := h.mq
  rw [h.st hj, List.idxOf_append, if_neg h1, List.idxOf_append, if_neg (fun z => h2 (List.mem_of_mem_take z)), List.idxOf_cons_self, List.length_take]
  omega
theorem WyP.ir (h : WyP g r pl q b suf m) : r.idxOf m = q.length := by
  have := h.at (j := 0) (by omega)
  exact this
theorem WyP.sw (h : WyP g r pl q b suf m) {j : Nat} (hj : j < b.length) : Sw g (stE r q.length j) (stE r q.length (j + 1)) := by
  have e := List.drop_eq_getElem_cons hj
  refine ⟨q ++ b.take j, m, b[j], b.drop (j + 1) ++ suf, g.take pl, suf, b.drop (j + 1), ?_, ?_, ?_, h.gg, rfl⟩
  · rw [h.st (by omega), e, List.append_assoc, List.cons_append]
  · have e2 : b.take (j + 1) = b.take j ++ [b[j]] := by rw [List.take_add_one, List.getElem?_eq_getElem hj]; rfl
    rw [h.st (by omega), e2, List.append_assoc, List.append_assoc]
    rfl
  · rw [h.im]
    exact h.ix (List.getElem_mem hj)
/-- the rows of one place -/
def exJ (r : Row) (a j : Nat) : List Row := (List.range j).map fun j => stE r a (j + 1)
theorem exJ_next {r : Row} {a j : Nat} : exJ r a (j + 1) = exJ r a j ++ [stE r a (j + 1)] := by
  unfold exJ
  rw [List.range_succ, List.map_append]
  rfl
theorem WyP.chain {row : Row} {l : List Row} (h : WyP g r pl q b suf m) (hc : ChW g row l) (hl : lastR l = r) : ∀ j, j ≤ b.length → ChW g row (l ++ exJ r q.length j) ∧ lastR (l ++ exJ r q.length j) = stE r q.length j
  | 0, _ => by
    show ChW g row (l ++ []) ∧ lastR (l ++ []) = r
    rw [List.append_nil]
    exact ⟨hc, hl⟩
  | j + 1, hj => by
    obtain ⟨h1, h2⟩ := WyP.chain h hc hl j (by omega)
    rw [exJ_next, ← List.append_assoc]
    exact ⟨h1.push (by rw [h2]; exact h.sw (by omega)), lastR_app⟩
theorem WyP.exTo (h : WyP g r pl q b suf m) : exTo r m pl = exJ r q.length b.length := by
  unfold Mi.exTo exJ
  rw [h.ir, show pl - q.length = b.length by have := h.len; omega]
end
structure WyI (g row : Row) (i : Nat) (l : List Row) : Prop where
  f : ∃ f, lastR l = f ++ g.drop (g.length - i) ∧ f.Perm (g.take (g.length - i))
  c : ChW g row l
theorem WyI.place {g row : Row} {i : Nat} {l : List Row} (h : WyI g row i l) (hn : g.Nodup) (hi : i < g.length) : ∃ q b suf, WyP g (lastR l) (g.length - 1 - i) q b suf (g.getD (g.length - 1 - i) []) ∧ suf = g.drop (g.length - i) := by
  obtain ⟨f, e, p⟩ := h.f
  have hp : g.length - 1 - i < g.length := by omega
  have eg : g.getD (g.length - 1 - i) [] = g[g.length - 1 - i] := by rw [List.getD_eq_getElem?_getD, List.getElem?_eq_getElem hp]; rfl
  have et : g.take (g.length - i) = g.take (g.length - 1 - i) ++ [g[g.length - 1 - i]] := by
    rw [show g.length - i = (g.length - 1 - i) + 1 by omega, List.take_add_one, List.getElem?_eq_getElem hp]
    rfl
  have hm : g[g.length - 1 - i] ∈ f := p.mem_iff.mpr (by rw [et]; exact List.mem_append_right _ (List.mem_singleton.mpr rfl))
  obtain ⟨q, b, hf⟩ := List.append_of_mem hm
  refine ⟨q, b, g.drop (g.length - i), ⟨?_, ?_, ?_, hp, hn⟩, rfl⟩
  · rw [e, hf, eg, List.append_assoc, List.cons_append]
  · rw [eg]
    have : g.drop (g.length - 1 - i) = g[g.length - 1 - i] :: g.drop (g.length - i) := by
      rw [List.drop_eq_getElem_cons hp, show g.length - 1 - i + 1 = g.length - i by omega]
    rw [← this, List.take_append_drop]
  · rw [hf, et] at p
    have p2 : (g[g.length - 1 - i] :: (q ++ b)).Perm (g[g.length - 1 - i] :: g.take (g.length - 1 - i)) := by
      refine (List.perm_middle.symm.trans p).trans ?_
      have := List.perm_middle (a := g[g.length - 1 - i]) (l₁ := g.take (g.length - 1 - i)) (l₂ := [])
      rw [List.append_nil] at this
      exact this
    exact p2.cons_inv
theorem WyI.next {g row : Row} {i : Nat} {l : List Row} (h : WyI g row i l) (hn : g.Nodup) (hi : i < g.length) : WyI g row (i + 1) (l ++ exTo (lastR l) (g.getD (g.length - 1 - i) []) (g.length - 1 - i)) := by
  obtain ⟨q, b, suf, hp, hs⟩ := h.place hn hi
  obtain ⟨h1, h2⟩ := hp.chain h.c rfl b.length (Nat.le_refl _)
  rw [hp.exTo]
  refine ⟨⟨q ++ b, ?_, by rw [show g.length - (i + 1) = g.length - 1 - i by omega]; exact hp.p⟩, h1⟩
  rw [h2, hp.st (Nat.le_refl _), List.take_length, List.drop_length, List.nil_append, List.append_assoc]
  have : g.drop (g.length - (i + 1)) = g.getD (g.length - 1 - i) [] :: suf := by
    have e := hp.gg
    rw [show g.length - (i + 1) = g.length - 1 - i by omega]
    have e2 : g.take (g.length - 1 - i) ++ g.drop (g.length - 1 - i) = g.take (g.length - 1 - i) ++ g.getD (g.length - 1 - i) [] :: suf := by
      rw [List.take_append_drop]
      exact e
    exact List.append_cancel_left e2
  rw [this]
theorem way_inv {g row : Row} (hn : g.Nodup) (hp : row.Perm g) : ∀ i, i ≤ g.length → WyI g row i (wayN row g i)
  | 0, _ => ⟨⟨row, by rw [Nat.sub_zero, List.drop_length, List.append_nil]; rfl, by rw [Nat.sub_zero, List.take_length]; exact hp⟩, ⟨rfl, fun k a b h1 h2 => by cases h2⟩⟩
  | i + 1, h => (way_inv hn hp i (by omega)).next hn (by omega)
theorem way_end {g row : Row} (hn : g.Nodup) (hp : row.Perm g) : ChW g row (wayN row g g.length) ∧ lastR (wayN row g g.length) = g := by
  have h := way_inv hn hp g.length (Nat.le_refl _)
  obtain ⟨f, e, p⟩ := h.f
  rw [Nat.sub_self] at e p
  have : f = [] := by
    have := p.length_eq
    rw [List.take_zero] at this
    exact List.length_eq_zero_iff.mp this
  refine ⟨h.c, ?_⟩
  rw [e, this, List.drop_zero, List.nil_append]
theorem ChW.inv {g row : Row} {l : List Row} (h : ChW g row l) : ∀ k Z, l[k]? = some Z → invN g Z + k = invN g row ∧ Z.Perm row
  | 0, Z, hz => by
    rw [h.z] at hz
    rw [Option.some.inj hz]
    exact ⟨rfl, .refl _⟩
  | k + 1, Z, hz => by
    have hk : k < l.length := by
      have := (List.getElem?_eq_some_iff.mp hz).1
      omega
    obtain ⟨h1, h2⟩ := h.inv k l[k] (List.getElem?_eq_getElem hk)
    have hs := h.c k l[k] Z (List.getElem?_eq_getElem hk) hz
    have := hs.inv
    exact ⟨by omega, hs.perm.trans h2⟩
theorem way_len {g row : Row} (hn : g.Nodup) (hp : row.Perm g) : (wayN row g g.length).length = invN g row + 1 := by
  obtain ⟨h1, h2⟩ := way_end hn hp
  have h3 := h1.inv _ _ (lastR_at h1.ne)
  have h4 : 0 < (wayN row g g.length).length := List.length_pos_iff.mpr h1.ne
  rw [h2, inv_self hn] at h3
  omega
/-! ### a cell's last mark along the way -/
def lastM (f : List Nat → Nat) (b : Nat) (r : Row) : Nat := r.foldl (fun b n => if f n = 45 then b else f n) b
theorem lastM_app {f : List Nat → Nat} {b : Nat} {p s : Row} : lastM f b (p ++ s) = lastM f (lastM f b p) s := by
  unfold lastM
  rw [List.foldl_append]
theorem lastM_dash {f : List Nat → Nat} : ∀ {s : Row} (b : Nat), (∀ n ∈ s, f n = 45) → lastM f b s = b
  | [], _, _ => rfl
  | n :: s, b, h => by
    show lastM f (if f n = 45 then b else f n) s = b
    rw [if_pos (h n (List.mem_cons_self ..))]
    exact lastM_dash b fun x hx => h x (List.mem_cons_of_mem _ hx)
theorem lastM_any {f : List Nat → Nat} : ∀ {s : Row} (a b : Nat), (∃ n ∈ s, f n ≠ 45) → lastM f a s = lastM f b s
  | [], _, _, h => by obtain ⟨n, hn, _⟩ := h; cases hn
  | n :: s, a, b, h => by
    show lastM f (if f n = 45 then a else f n) s = lastM f (if f n = 45 then b else f n) s
    by_cases q : f n = 45
    · rw [if_pos q, if_pos q]
      obtain ⟨x, hx, hq⟩ := h
      rcases List.mem_cons.mp hx with rfl | hx
      · exact absurd q hq
      · exact lastM_any a b ⟨x, hx, hq⟩
    · rw [if_neg q, if_neg q]
theorem Sw.cell {g Z Z' : Row} (h : Sw g Z Z') (f : List Nat → Nat) (b : Nat) : lastM f b Z' = lastM f b Z ∨ lastM f b Z' = lastM f b g := by
  obtain ⟨p, m, x, s, gp, suf, t, rfl, rfl, hx, hg, hs⟩ := h.ex
  have e1 : p ++ x :: m :: s = (p ++ [x, m]) ++ s := by rw [List.append_assoc]; rfl
  have e2 : p ++ m :: x :: s = (p ++ [m, x]) ++ s := by rw [List.append_assoc]; rfl
  by_cases q : ∃ n ∈ s, f n ≠ 45
  · left
    rw [e1, e2, lastM_app (p := p ++ [x, m]), lastM_app (p := p ++ [m, x])]
    exact lastM_any _ _ q
  · have hd : ∀ n ∈ s, f n = 45 := fun n hn => Decidable.byContradiction fun z => q ⟨n, hn, z⟩
    rw [e1, e2, lastM_app (p := p ++ [x, m]), lastM_app (p := p ++ [m, x]), lastM_dash _ hd, lastM_dash _ hd, lastM_app, lastM_app]
    by_cases qm : f m = 45
    · left
      simp [lastM, qm]
    · right
      have hds : ∀ n ∈ suf, f n = 45 := fun n hn => hd n (by rw [hs]; exact List.mem_append_right _ hn)
      rw [hg, lastM_app]
      show _ = lastM f (if f m = 45 then _ else f m) suf
      rw [if_neg qm, lastM_dash _ hds]
      simp [lastM, qm]
theorem ChW.cell {g row : Row} {l : List Row} (h : ChW g row l) (f : List Nat → Nat) (b : Nat) : ∀ (k : Nat) (Z : Row), l[k]? = some Z → lastM f b Z = lastM f b row ∨ lastM f b Z = lastM f b g
  | 0, Z, hz => by
    rw [h.z] at hz
    rw [Option.some.inj hz]
    exact .inl rfl
  | k + 1, Z, hz => by
    have hk : k < l.length := by
      have := (List.getElem?_eq_some_iff.mp hz).1
      omega
    rcases (h.c k l[k] Z (List.getElem?_eq_getElem hk) hz).cell f b with q | q
    · rw [q]
      exact ChW.cell h f b k l[k] (List.getElem?_eq_getElem hk)
    · exact .inr q
end Mi

set_option maxHeartbeats 2000000
namespace Mi
open PySem PySem.Spec PyProof.Rows L2 Evl
theorem takes0N {X : Cx} : L2N.Takes X (fun _ _ _ _ => False) := fun _ _ x => by
  obtain ⟨_, _, _, _, _, _, _, _, _, _, _, _, _, _, _, _, z⟩ := x
  exact z.elim
/-! ### C(e, ..), C an own exception class with an __init__ that is a def of the text -/
theorem pmk_oexN {X : Cx} {x : Str} {e : Expr} {es : List Expr} {ta : TA} {p pos : Pos} {C fI : Addr} {k : Nat} {fd : FuncData} {ps : List Str} {sp : Sp} (T : OexC X.K C) (iC : PySem.W.findIn X.K (.ref C) "__init__" = some (some (.ref fI))) (tI : PySem.W.typeIn X.K (.ref fI) = some (.type "function"))
    (F1 : FnOk X.prog X.w X.K X.mg X.base CX0 k fI fd ps sp) (hr : Room (k + 1) X.A) (hb : Binds X.K fd ps []) (hm : X.mg x = some (.ref C)) (ha : PA X (e :: es) ta) (hg : Gl X x := by rfl)
    (hdb : (x == ("__debug__" : Str)) = false := by decide) (he : starEach (e :: es) X.env = (false, eval e X.env) :: starEach es X.env := by rfl) (hpl : (backTo pos (starEach es X.env)).any (·.1) = false := by rfl) :
    L2N.PMk X (.Call (.Name x p) (e :: es) [] pos) (tMkO C sp [] ta) := fun pins s σ H Q I h => by
  obtain ⟨nm, q, N, bs, bm, sn, sub, ab, col, dd, k0, k1, k2, k3, k5, hC, hbm⟩ := T.cls
  refine wpAny_Call_Name_kw (ld_glob I hg hm (PySem.W.callWith_K (h₀ := X.base) I.ok.mod.kin T.kC (thn (ha.run pos pins s σ H _ I h) fun us s1 ⟨vs, H1, I1, r1, hz, q1⟩ => ⟨I1.kIn, ?_⟩) he hpl) hdb)
  show wpAny _ _ (call (.ref C) us) _ _ _
  obtain ⟨hp, g, dr, tk, os⟩ := s1
  generalize ha0 : hp.objs.size + 1 = a
  have hsz : hp.objs.size ≤ a := by rw [← ha0]; exact Nat.le_succ _
  have hq := q1 a (I1.hok.fresh hsz)
  rw [List.append_nil] at hq
  have kk : ∀ b o, hp.get? b = some o → ((hp.push (PySem.W.kdv_tup us)).push (PySem.HandSPX.excO C hp.objs.size)).get? b = some o := fun b o e => Heap.get?_push_of_some _ (Heap.get?_push_of_some _ e)
  have hget : ((hp.push (PySem.W.kdv_tup us)).push (PySem.HandSPX.excO C hp.objs.size)).get? a = some (PySem.HandSPX.excO C hp.objs.size) := by rw [← ha0]; heap_get
  have I2 := I1.laid (t' := tk) (a := a) (o := exo a C none) (h' := (hp.push (PySem.W.kdv_tup us)).push (PySem.HandSPX.excO C hp.objs.size)) kk hsz (exo_ok hget)
  have r2 : Vals (V.ref a :: vs) (Value.ref a :: us) := .cons rfl r1
  have hl : (Value.ref a :: us ++ []).length = ps.length := by
    have e := r2.length
    rw [F1.len _ _ _ _ hq] at e
    rw [List.append_nil]
    exact e.symm
  have hus : us.length ≤ sizeLine := by rw [← Paired.length r1, sizeLine_eq]; omega
  have b2 := hb _ (Value.ref a :: us) I2.kIn hl
  rw [List.append_nil] at b2
  refine wpAny_call (PySem.HandSPX.call_own F.excBase_ValueError (fun Y => PySem.HandSPX.refsVE_contains Y bm hbm) (I1.kIn _ _ hC) (PySem.W.looks_findIn I1.kIn iC) (fun self => PySem.W.bind_fn I1.kIn self tI) hus (by
    rw [ha0]
    exact codeAny_mono (F1.run _ X.stack _ _ ⟨Value.ref a :: us, []⟩ (Value.ref a :: us) _ _ (fun _ _ _ => False) (hr.make C us []) (I2.env0.make C us []) b2 r2 hq) fun r s' hq' => by
      match r, hq' with
      | .error er, hq' => exact hq'.elim
      | .ok .next, hq' => exact hq'.elim
      | .ok .brk, hq' => exact hq'.elim
      | .ok .cont, hq' => exact hq'.elim
      | .ok (.ret u), hq' =>
        obtain ⟨v, H2, os2, bare2, un2, hok2, rv, ev, d, fs, ea, ed, hd1, q2⟩ := hq'
        subst ev
        obtain ⟨h2, g2, d2, t2, os'⟩ := s'
        obtain ⟨t0, G, J, kG, ge, hoe, na⟩ := mk_end0 (d2 := d2) (t2 := t2) I1 hsz kk un2 hok2 os2 bare2 ea ed hd1
        exact ⟨rv, a, _, _, ⟨G, g2, d2, t2, os'⟩, _, .ref C, some d, rfl, J, kG, ge, hoe, ⟨rfl, rfl, fun vs hv => by cases hv; rfl⟩, rfl, rfl, na, rfl, bare2, raises_own T.exC T.tyC, q2⟩))

/-! ### isinstance(e, c), e the exception that the suite holds, with fields of its own -/
structure ExdC (K : PySem.W.Frag) (D : Addr) : Prop where
  hcl : (PySem.W.clsIn K D).isSome = true
  hga : PySem.W.findIn K (.ref D) "__getattribute__" = some (some (.builtin "BaseException.__getattribute__"))
  hgt : PySem.W.findIn K (.ref D) "__getattr__" = some none
  hsub : PySem.W.subIn K (.ref D) (.type "BaseException") = some true
  ha : PySem.W.findIn K (.ref D) "__class__" = some (some (.builtin "object.__class__"))
  hn : PySem.W.specialIn K (.builtin "object.__class__") "__get__" = some (some (.builtin "getset_descriptor.__get__"))
  ht : PySem.W.takesIn K (.builtin "object.__class__") = some true
  hm : PySem.W.mroIn K D (.type "object") = some true
def rIsX (K : PySem.W.Frag) (a : Addr) (cls : Value) (d : Option Addr) : List V → Hp → VK → Prop := fun xs H Q => ∃ (c : V) (cv : Value) (b : Bool) (D dd : Addr) (fs : List (Str × V)), xs = [.ref a, c] ∧ cls = .ref D ∧ d = some dd ∧ H dd = some (.xd fs) ∧ ExdC K D ∧ (∀ u, RelV c u → u = cv) ∧ PySem.W.kitOne K (.ref D) cv = some b ∧ Q (.bl b) H
theorem call_isX {X : Cx} {a : Addr} {oe : Obj} {cls : Value} {d : Option Addr} {pn : List (Addr × Obj)} (hz : Zc cls d oe) (hf : ∃ vs, oe.data = .fields vs) : CallR (X.suite a ((a, oe) :: pn)) (.builtin "isinstance") (rIsX X.K a cls d) := by
  rintro pins s σ H xs us Q I r ⟨c, cv, b, D, dd, fs, rfl, rfl, rfl, hdd, C, hcv, e, q⟩
  obtain ⟨u1, u2, rfl, ru1, ru2⟩ := vals2 r
  obtain rfl : u1 = Value.ref a := ru1
  obtain rfl := hcv _ ru2
  obtain ⟨hget, _⟩ := I.pin (a, oe) (List.mem_append_left _ List.mem_cons_self)
  obtain ⟨vs, hv⟩ := hf
  have hx : ObjOk X.prog X.w H s.heap dd (.xd fs) := I.hok dd _ hdd
  obtain ⟨mA, hns, _⟩ := hx
  obtain ⟨od, ho, _⟩ := lookIn_ns hns
  have J : PySem.W.InstAt s.heap a oe D (some od) := ⟨hget, hz.1, by unfold PySem.W.notCls; rw [hv] <;> rfl, by rw [hz.2]; exact ho⟩
  exact PySem.W.kia_one (PySem.W.kitx_exc C.hcl C.hga C.hgt C.hsub C.ha C.hn C.ht C.hm) I.kIn J e (fun z => nomatch z) fun tk => ⟨.bl b, H, I.kept (t' := tk) fun _ _ z => z, rfl, q⟩
theorem call_isX_k {X : Cx} {K : PySem.W.Frag} {a : Addr} {oe : Obj} {cls : Value} {d : Option Addr} {pn : List (Addr × Obj)} (hz : Zc cls d oe) (hf : ∃ vs, oe.data = .fields vs) (h : X.K = K := by rfl) : CallR (X.suite a ((a, oe) :: pn)) (.builtin "isinstance") (rIsX K a cls d) := h ▸ call_isX hz hf
/-- own classes in isinstance -/
theorem kit_no {K : PySem.W.Frag} {C D : Addr} (hs : PySem.W.mroIn K C (.ref C) = some true) (hd : (PySem.W.clsIn K D).isSome = true) (ht : PySem.W.typeIn K (.ref D) = some (.type "type")) (h : PySem.W.mroIn K C (.ref D) = some false) : PySem.W.kitOne K (.ref C) (.ref D) = some false := by
  have ne : C ≠ D := fun z => by rw [← z, hs] at h; cases h
  unfold PySem.W.kitOne
  rw [if_neg (by simpa using ne)]
  show (if ((PySem.W.clsIn K D).isSome && PySem.W.typeIn K (.ref D) == some (.type "type")) = true then PySem.W.mroIn K C (.ref D) else none) = some false
  rw [hd, ht, if_pos (by rfl), h]
theorem kit_ve {K : PySem.W.Frag} {C : Addr} (h : PySem.W.mroIn K C (.type "ValueError") = some true) : PySem.W.kitOne K (.ref C) (.type "ValueError") = some true := by
  unfold PySem.W.kitOne
  rw [if_neg (by show ¬ ((Value.ref C == Value.type "ValueError") = true); rw [show (Value.ref C == Value.type "ValueError") = false from rfl]; exact Bool.false_ne_true)]
  show (if PySem.W.kitMeta "ValueError" = true then PySem.W.mroIn K C (.type "ValueError") else none) = _
  rw [if_pos (by decide), h]
theorem exm_is {K : PySem.W.Frag} {C D : Addr} {b : Bool} (h1 : PySem.W.mroIn K D (.type "BaseException") = some true) (hd : (PySem.W.clsIn K D).isSome = true) (ht : PySem.W.typeIn K (.ref D) = some (.type "type")) (h : PySem.W.mroIn K C (.ref D) = some b) : PySem.W.exmOne K (.ref C) (.ref D) = some b := by
  show (if (PySem.W.mroIn K D (.type "BaseException") == some true) = true then (if ((PySem.W.clsIn K D).isSome && PySem.W.typeIn K (.ref D) == some (.type "type")) = true then PySem.W.mroIn K C (.ref D) else none) else none) = some b
  rw [h1, hd, ht, if_pos (by rfl), if_pos (by rfl), h]
/-! ### defs called in an except suite -/
structure HasH (P : Program) (w : World) (K : PySem.W.Frag) (mg : Str → Option Value) (base : Heap) (k : Nat) (x : Str) (ps : List Str) (sp : Sp) : Prop where
  ex : ∃ f fd, mg x = some (.ref f) ∧ PySem.W.keepIn K (.ref f) = true ∧ L2H.FnH P w K mg base CX0 k f fd ps sp ∧ Binds K fd ps []
theorem hotS {X : Cx} {a : Addr} {oe : Obj} {cls : Value} {d : Option Addr} {pn : List (Addr × Obj)} (hz : L2N.Zn cls d oe) (hf : ∃ vs, oe.data = .fields vs) : L2H.HotC (X.suite a ((a, oe) :: pn)) := by
  obtain ⟨vs, hv⟩ := hf
  exact ⟨(a, oe), ⟨rfl, vs, hv, hz.2.2 vs hv⟩, List.mem_cons_self⟩
theorem pe_callHH {X : Cx} {k : Nat} {x : Str} {ps : List Str} {sp : Sp} {p pos : Pos} {e : Expr} {es : List Expr} {t : TA} (F : HasH X.prog X.w X.K X.mg X.base k x ps sp) (hr : L2H.RoomH k X.A) (hc : L2H.HotC X) (ha : PA X (e :: es) t) (hg : Gl X x := by rfl) (hdb : (x == ("__debug__" : Str)) = false := by decide)
    (he : starEach (e :: es) X.env = (false, eval e X.env) :: starEach es X.env := by rfl) (hpl : (backTo pos (starEach es X.env)).any (·.1) = false := by rfl) : PE X (.Call (.Name x p) (e :: es) [] pos) (tCallS sp (fun _ => E0) t) := by
  obtain ⟨f, fd, hm, hk, F, hb⟩ := F.ex
  exact L2H.pe_callH F hr hc hg hm hk hb (fun σ _ _ _ _ _ _ h => h.elim) ha hdb he hpl
theorem Fun.okH {P : Program} {w : World} {K : PySem.W.Frag} {mg : Str → Option Value} {base : Heap} {x qual : Str} {st : Stmt} {f : Addr} {fd : FuncData} {N ps : List Str} {k : Nat} {T : Type} {pre : T → Prop} {args : T → List Dd} {ret : T → Dd} (F : Fun K x qual st f fd) (Sc : FnScope N ps (defScope st)) (hl : ∀ a, (args a).length = ps.length)
    (hb : ∀ (cdv : Value) (A : Around) (outer : List Env) (s : Shared) (H : Hp) (a : T) (vs : List V) (Q : VK) (E : XK) (p : Addr × Obj), L2H.Hot1 A p → L2H.RoomH k (A.deeper (envOfC qual (defScope st) s.heap.objs.size f cdv)) → pre a → IsAll K H (args a) vs → (∀ v H', Ex H H' → Is K H' (ret a) v → Q v H') →
      ∃ t, PSs (L2H.cxH CX0 P w K mg base N qual (defScope st) f cdv A outer s H E p) (defBody st) t ∧ t { nx := fun _ H' => Q .non H', rt := Q } (start N vs) H) : L2H.FnH P w K mg base CX0 (k + 1) f fd ps (spR K pre args ret) := by
  obtain ⟨oc, od, kV, doc, pm, an, cdv, ct, osl, rfl, lk, hcd⟩ := F.ex
  exact L2H.fn_ofH (CX := CX0) lk hcd Sc (fun vs H Q E ⟨a, _, hv, _⟩ => by rw [← hv.len, hl]) fun A outer s H vs Q E p hot hr ⟨a, hp, hv, hk⟩ => hb cdv A outer s H a vs Q E p hot hr hp hv hk
theorem At.hasH {P : Program} {w : World} {K : PySem.W.Frag} {mg : Str → Option Value} {base : Heap} {x : Str} {st : Stmt} {ps : List Str} {k : Nat} {sp : Sp} (h : At K mg x st ps) (hf : ∀ {f fd}, Fun K x x st f fd → L2H.FnH P w K mg base CX0 k f fd ps sp) : HasH P w K mg base k x ps sp := by
  obtain ⟨f, fd, hm, F, b0, _⟩ := h.ex
  exact ⟨f, fd, hm, F.kp, hf F, b0⟩
theorem hotD {CX : CXT} {P : Program} {w : World} {K : PySem.W.Frag} {mg : Str → Option Value} {base : Heap} {N : List Str} {qual : Str} {scope : Scope} {f : Addr} {cd : Value} {A : Around} {outer : List Env} {s : Shared} {H : Hp} {E : XK} {p : Addr × Obj} (h : L2H.Hot1 A p) : L2H.HotC (L2H.cxH CX P w K mg base N qual scope f cd A outer s H E p) := ⟨p, h, List.mem_singleton.mpr rfl⟩
section
variable {K : PySem.W.Frag} {σ : L2.St} {H : Hp} {tr : TA} {te : TE} {T : Type} {pre : T → Prop} {args : T → List Dd} {ret : T → Dd}
theorem er_callHH {ds : List Dd} (a : T) (h : Era K tr σ H ds) (hd : ds = args a) (hp : pre a) : Er K (tCallS (spR K pre args ret) (fun _ => E0) tr) σ H (ret a) := fun H1 e Q q =>
  h H1 e _ fun vs H2 e2 z => ⟨a, hp, hd ▸ z, fun v H' e3 hv => q v H' (e2.trans e3) hv⟩
/-- isinstance of the exception in hand -/
theorem er_isX {a D dd : Addr} {cls : Value} {d : Option Addr} {fs : List (Str × V)} {c : V} {b : Bool} (cv : Value) (he : Er K te σ H (.v (.ref a))) {tc : TE} (hc : Er K tc σ H (.v c)) (e1 : cls = .ref D) (e2 : d = some dd) (hdd : H dd = some (.xd fs)) (C : ExdC K D) (hcv : ∀ u, RelV c u → u = cv) (hk : PySem.W.kitOne K (.ref D) cv = some b) :
    Er K (tCB (rIsX K a cls d) (tCons te (tCons tc tNil))) σ H (.b b) := fun H1 e Q q =>
  he H1 e _ fun v H2 x2 z => hc H2 (e.trans x2) _ fun u H3 x3 z2 => by
    obtain rfl : v = .ref a := z
    obtain rfl : u = c := z2
    exact ⟨_, cv, b, D, dd, fs, rfl, e1, e2, ((e.trans x2).trans x3) dd _ hdd, C, hcv, hk, q _ H3 (x2.trans x3) rfl⟩
/-- e.f, e the exception in hand -/
theorem er_xf {a C dd : Addr} {cls : Value} {d : Option Addr} {fs : List (Str × V)} {f : Str} {v : V} {dv : Dd} (he : Er K te σ H (.v (.ref a))) (e1 : cls = .ref C) (e2 : d = some dd) (hdd : H dd = some (.xd fs)) (hl : fs.lookup f = some v) (hv : Is K H dv v) : Er K (tXf a cls d C f te) σ H dv := fun H1 e Q q =>
  he H1 e _ fun x H2 x2 z => ⟨z, e1, dd, fs, v, e2, (e.trans x2) dd _ hdd, hl, q v H2 x2 (hv.mono (e.trans x2))⟩
end
end Mi

set_option maxHeartbeats 2000000
namespace Mi
open PySem PySem.Spec PyProof.Rows L2 Evl
open AutoSeq1 (wpAny_loadPart')
/-! ### enumerate over a zip of two texts: the zip's tuple may still be out when the next one is asked -/
abbrev ZQ (h : Heap) (z ti own : Addr) (q : Value) (f : Bool) : Prop :=
  h.get? z = some { cls := .type "zip", dict := none, data := .fields #[q, .bool f, .bool false, .ref ti, .ref own], slots := #[] }
def OutQ (q : Value) : Prop := q = .none ∨ ∃ T : Addr, q = rawInt T
section
variable {prog : Program} {w : World} {A : Around} {E : Value → Shared → Prop} {s : Shared} {z ti own i1 i2 : Addr} {p1 p2 : List Addr} {n1 n2 i : Nat} {R1 R2 : Nat → Value → Prop} {T1 T2 : Nat → Heap → Prop} {a1 a2 q : Value} {f : Bool}
theorem zq_gone {a : Addr} {Q : Option Obj → Shared → Prop} (ho : s.heap.get? a = none) (h : Q none s) : wpAny (model prog w) A (loadIfAlive a) Q E s := by
  have h2 : Q (s.heap.get? a) s := by rw [ho]; exact h
  exact fun _ _ _ => h2
theorem zq_free {Q : Bool → Shared → Prop} (hz : ZQ s.heap z ti own q f) (hq : OutQ q) (y : Q true s)
    (n : ∀ g, ZQ g z ti own q true → Heap.SameBut z s.heap g → Q false { s with heap := g }) : wpAny (model prog w) A (Builtin.SmallTypes.ownedTupleIsFree (.ref z)) Q E s := by
  unfold Builtin.SmallTypes.ownedTupleIsFree
  refine wpAny_bind (wpAny_field hz rfl (x := q) rfl ?_)
  rcases hq with rfl | ⟨T, rfl⟩
  · exact wpAny_pure y
  show wpAny _ _ (loadIfAlive ((T : Int).toNat) >>= _) _ _ _
  rw [Int.toNat_natCast]
  cases hT : s.heap.get? T with
  | none =>
    refine wpAny_bind (zq_gone hT ?_)
    exact wpAny_pure y
  | some o =>
    refine wpAny_bind (PySem.W.kdx_alive hT ?_)
    simp only [Option.isNone_some, Bool.false_eq_true, if_false]
    refine wpAny_bind (wpAny_field hz rfl (x := .bool f) rfl ?_)
    cases f
    · rw [if_pos (show (Value.bool false != Value.bool true) = true from rfl)]
      refine wpAny_bind (wpAny_setField_rec hz (by simp) fun g hg sg => ?_)
      exact wpAny_pure (n g hg sg)
    · rw [if_neg (show ¬ ((Value.bool true != Value.bool true) = true) from Bool.false_ne_true)]
      exact wpAny_pure (n _ hz (Heap.SameBut.refl _ _))
theorem zq_item {Q : Value → Shared → Prop} (S : ZipSep2 z ti own i1 i2 p1 p2) (D1 : Draws prog w A i1 p1 n1 R1 T1) (D2 : Draws prog w A i2 p2 n2 R2 T2)
    (hz : ZQ s.heap z ti own q f) (hq : OutQ q) (hI : IsTupOf2 s.heap ti (.ref i1) (.ref i2)) (hO : IsTupOf2 s.heap own a1 a2) (t1 : T1 i s.heap) (t2 : T2 i s.heap) (l1 : i < n1) (l2 : i < n2)
    (k : ∀ x y g tk q2 f2, R1 i x → R2 i y → ZQ g z ti own q2 f2 → OutQ q2 → (∃ b1 b2, IsTupOf2 g own b1 b2) → T1 (i + 1) g → T2 (i + 1) g → IsTupOf2 g s.heap.objs.size x y → g.objs.size = s.heap.objs.size + 1 →
      (∀ c o, c ≠ z → c ≠ own → c ≠ i1 → c ≠ i2 → s.heap.get? c = some o → g.get? c = some o) → Q (.ref s.heap.objs.size) { s with heap := g, toks := tk }) :
    wpAny (model prog w) A (Builtin.«zip.__next__» ⟨[.ref z], []⟩) (fun e s2 => ∃ v, e = .done (.ret v) ∧ Q v s2) E s := by
  obtain ⟨hp, gn, dr, tk0, os⟩ := s
  show wpAny _ _ (field (.ref z) 2 >>= _) _ _ _
  refine wpAny_bind (wpAny_field hz rfl (x := .bool false) rfl ?_)
  show wpAny _ _ (field (.ref z) 3 >>= _) _ _ _
  refine wpAny_bind (wpAny_field hz rfl (x := .ref ti) rfl ?_)
  refine wpAny_bind (wpAny_seqItems hI rfl ?_)
  show wpAny _ _ (Builtin.SmallTypes.ownedTupleIsFree (.ref z) >>= _) _ _ _
  refine wpAny_bind (zq_free hz hq ?_ fun g hg sg => ?_)
  · simp only [if_true]
    refine wpAny_bind (wpAny_rule ?_)
    refine wpAny_bind (wpAny_field hz rfl (x := .ref own) rfl ?_)
    refine wpAny_bind (wpAny_setField_rec hz (by simp) fun g0 z0 s0 => ?_)
    replace z0 : ZQ g0 z ti own .ellipsis f := z0
    replace s0 : Heap.SameBut z hp g0 := s0
    refine wpAny_bind ?_
    simp only [List.zipIdx_cons, List.zipIdx_nil, List.forIn_cons, List.forIn_nil]
    refine wpAny_bind (wpAny_bind (wpAny_onRaise ?_))
    show wpAny _ _ (Builtin.SmallTypes.nextOf (.ref i1) >>= _) _ _ ⟨g0, gn, dr, tk0, os⟩
    refine wpAny_bind (D1.item i _ _ _ l1 (D1.over t1 s0 S.zf1) fun x h1 k1 hx n1' m1 => wpAny_pure ?_)
    replace m1 : Heap.SameBut i1 g0 h1 := m1
    have u1 : IsTupOf2 h1 own a1 a2 := m1.extBut _ _ S.Ti1 (s0.extBut _ _ S.TOz hO)
    refine wpAny_bind (wpAny_seqItems (s := ⟨h1, gn, dr, k1, os⟩) u1 rfl ?_)
    refine wpAny_bind (updateSeq_IsTupOf2 (s := ⟨h1, gn, dr, k1, os⟩) u1 fun g1 v1 s1 => ?_)
    replace v1 : IsTupOf2 g1 own x a2 := v1
    replace s1 : Heap.SameBut own h1 g1 := s1
    refine wpAny_bind (wpAny_letGo (wpAny_pure ?_))
    refine wpAny_bind (wpAny_bind (wpAny_onRaise ?_))
    show wpAny _ _ (Builtin.SmallTypes.nextOf (.ref i2) >>= _) _ _ ⟨g1, gn, dr, k1, os⟩
    refine wpAny_bind (D2.item i _ _ _ l2 (D2.over (D2.over (D2.over t2 s0 S.zf2) m1 S.sep1_2) s1 S.Tf2) fun y h2 k2 hy n2' m2 => wpAny_pure ?_)
    replace m2 : Heap.SameBut i2 g1 h2 := m2
    have u2 : IsTupOf2 h2 own x a2 := m2.extBut _ _ S.Ti2 v1
    refine wpAny_bind (wpAny_seqItems (s := ⟨h2, gn, dr, k2, os⟩) u2 rfl ?_)
    refine wpAny_bind (updateSeq_IsTupOf2 (s := ⟨h2, gn, dr, k2, os⟩) u2 fun g2 v2 s2 => ?_)
    replace v2 : IsTupOf2 g2 own x y := v2
    replace s2 : Heap.SameBut own h2 g2 := s2
    refine wpAny_bind (wpAny_letGo (wpAny_pure (wpAny_pure ?_)))
    refine wpAny_bind (wpAny_seqItems (s := ⟨g2, gn, dr, k2, os⟩) v2 rfl ?_)
    refine wpAny_bind (wpAny_newTuple ?_)
    have sz : g2.objs.size = hp.objs.size := by rw [s2.1, m2.1, s1.1, m1.1, s0.1]
    have zz : ZQ g2 z ti own .ellipsis f := s2.extBut _ _ S.TOz.symm (m2.extBut _ _ S.zi2 (s1.extBut _ _ S.TOz.symm (m1.extBut _ _ S.zi1 z0)))
    have kp : ∀ c o, c ≠ z → c ≠ own → c ≠ i1 → c ≠ i2 → hp.get? c = some o → g2.get? c = some o := fun c o c1 c2 c3 c4 e => s2.extBut _ _ c2 (m2.extBut _ _ c4 (s1.extBut _ _ c2 (m1.extBut _ _ c3 (s0.extBut _ _ c1 e))))
    have w1 : T1 (i + 1) g2 := D1.over (D1.over (D1.over n1' s1 S.Tf1) m2 S.sep2_1) s2 S.Tf1
    have w2 : T2 (i + 1) g2 := D2.over n2' s2 S.Tf2
    have zl : z < g2.objs.size := Heap.lt_size zz
    show wpAny _ _ (Builtin.SmallTypes.ownedTupleHandOut (.ref z) (.ref g2.objs.size) >>= _) _ _ ⟨g2.push { cls := .type "tuple", data := .seq #[x, y] }, gn, dr, k2, os⟩
    refine wpAny_bind ?_
    unfold Builtin.SmallTypes.ownedTupleHandOut
    have z6 : ZQ (g2.push { cls := .type "tuple", data := .seq #[x, y] }) z ti own .ellipsis f := Heap.get?_push_of_some _ zz
    refine wpAny_bind (wpAny_setField_rec z6 (by simp) fun h7 z7 s7 => ?_)
    replace z7 : ZQ h7 z ti own (rawInt g2.objs.size) f := z7
    refine wpAny_setField_rec z7 (by simp) fun h8 z8 s8 => ?_
    replace z8 : ZQ h8 z ti own (rawInt g2.objs.size) false := z8
    replace s7 : Heap.SameBut z (g2.push { cls := .type "tuple", data := .seq #[x, y] }) h7 := s7
    replace s8 : Heap.SameBut z h7 h8 := s8
    have up : ∀ c o, c ≠ z → g2.get? c = some o → h8.get? c = some o := fun c o c1 e => s8.extBut _ _ c1 (s7.extBut _ _ c1 (Heap.get?_push_of_some _ e))
    have r8 : IsTupOf2 h8 g2.objs.size x y := s8.extBut _ _ (Nat.ne_of_gt zl) (s7.extBut _ _ (Nat.ne_of_gt zl) (Heap.get?_push_size _ rfl))
    have q8 : h8.objs.size = g2.objs.size + 1 := by rw [s8.1, s7.1, Heap.size_push]
    rw [sz] at z8 r8 q8
    refine wpAny_pure ⟨_, rfl, ?_⟩
    show Q (.ref g2.objs.size) ⟨h8, gn, dr, k2, os⟩
    rw [sz]
    exact k x y h8 k2 _ _ hx hy z8 (.inr ⟨_, rfl⟩) ⟨_, _, up _ _ S.TOz v2⟩ (D1.frame _ _ _ w1 fun b hb o e => up b o (fun t => S.zf1 (t ▸ hb)) e) (D2.frame _ _ _ w2 fun b hb o e => up b o (fun t => S.zf2 (t ▸ hb)) e) r8 q8 fun c o c1 c2 c3 c4 e => up c o c1 (kp c o c1 c2 c3 c4 e)
  · replace sg : Heap.SameBut z hp g := sg
    simp only [Bool.false_eq_true, if_false]
    refine wpAny_bind ?_
    rw [← Array.forIn_toList]
    simp only [List.forIn_cons, List.forIn_nil]
    refine wpAny_bind (wpAny_bind (wpAny_holding ?_))
    show wpAny _ _ (Builtin.SmallTypes.nextOf (.ref i1) >>= _) _ _ ⟨g, gn, dr, tk0, os⟩
    refine wpAny_bind (D1.item i _ _ _ l1 (D1.over t1 sg S.zf1) fun x h1 k1 hx n1' m1 => wpAny_pure ?_)
    replace m1 : Heap.SameBut i1 g h1 := m1
    refine wpAny_pure ?_
    refine wpAny_bind (wpAny_bind (wpAny_holding ?_))
    show wpAny _ _ (Builtin.SmallTypes.nextOf (.ref i2) >>= _) _ _ ⟨h1, gn, dr, k1, os⟩
    refine wpAny_bind (D2.item i _ _ _ l2 (D2.over (D2.over t2 sg S.zf2) m1 S.sep1_2) fun y h2 k2 hy n2' m2 => wpAny_pure ?_)
    replace m2 : Heap.SameBut i2 h1 h2 := m2
    refine wpAny_pure (wpAny_pure ?_)
    show wpAny _ _ (newTuple [x, y] >>= _) _ _ _
    refine wpAny_bind (wpAny_newTuple ?_)
    have sz : h2.objs.size = hp.objs.size := by rw [m2.1, m1.1, sg.1]
    have zz : ZQ h2 z ti own q true := m2.extBut _ _ S.zi2 (m1.extBut _ _ S.zi1 hg)
    have kp : ∀ c o, c ≠ z → c ≠ i1 → c ≠ i2 → hp.get? c = some o → h2.get? c = some o := fun c o c1 c3 c4 e => m2.extBut _ _ c4 (m1.extBut _ _ c3 (sg.extBut _ _ c1 e))
    have w1 : T1 (i + 1) h2 := D1.over n1' m2 S.sep2_1
    refine wpAny_pure ⟨_, rfl, ?_⟩
    show Q (.ref h2.objs.size) _
    have hp2 : IsTupOf2 (h2.push { cls := .type "tuple", data := .seq #[x, y] }) h2.objs.size x y := Heap.get?_push_size _ rfl
    have sz2 : (h2.push { cls := .type "tuple", data := .seq #[x, y] }).objs.size = h2.objs.size + 1 := Heap.size_push ..
    rw [sz] at hp2 sz2 ⊢
    exact k x y _ k2 q true hx hy (Heap.get?_push_of_some _ zz) hq ⟨_, _, Heap.get?_push_of_some _ (kp _ _ S.TOz S.Ti1 S.Ti2 hO)⟩ (D1.frame _ _ _ w1 fun b hb o e => Heap.get?_push_of_some _ e) (D2.frame _ _ _ n2' fun b hb o e => Heap.get?_push_of_some _ e) hp2 sz2 fun c o c1 c2 c3 c4 e => Heap.get?_push_of_some _ (kp c o c1 c3 c4 e)
theorem zq_end {Q : Fin → Shared → Prop} (S : ZipSep2 z ti own i1 i2 p1 p2) (D1 : Draws prog w A i1 p1 n1 R1 T1) (D2 : Draws prog w A i2 p2 n2 R2 T2)
    (hz : ZQ s.heap z ti own q f) (hq : OutQ q) (hI : IsTupOf2 s.heap ti (.ref i1) (.ref i2)) (hO : IsTupOf2 s.heap own a1 a2) (t1 : T1 i s.heap) (t2 : T2 i s.heap) (l1 : i ≤ n1) (l2 : i ≤ n2) (hl : i = n1 ∨ i = n2)
    (k : ∀ g tk e, (∀ c o, c ≠ z → c ≠ own → c ≠ i1 → c ≠ i2 → s.heap.get? c = some o → g.get? c = some o) → (∃ o, g.get? e = some o ∧ o.cls = .type "StopIteration") → E (.ref e) { s with heap := g, toks := tk }) :
    wpAny (model prog w) A (Builtin.«zip.__next__» ⟨[.ref z], []⟩) Q E s := by
  obtain ⟨hp, gn, dr, tk0, os⟩ := s
  show wpAny _ _ (field (.ref z) 2 >>= _) _ _ _
  refine wpAny_bind (wpAny_field hz rfl (x := .bool false) rfl ?_)
  show wpAny _ _ (field (.ref z) 3 >>= _) _ _ _
  refine wpAny_bind (wpAny_field hz rfl (x := .ref ti) rfl ?_)
  refine wpAny_bind (wpAny_seqItems hI rfl ?_)
  show wpAny _ _ (Builtin.SmallTypes.ownedTupleIsFree (.ref z) >>= _) _ _ _
  refine wpAny_bind (zq_free hz hq ?_ fun g hg sg => ?_)
  · simp only [if_true]
    refine wpAny_bind (wpAny_rule ?_)
    refine wpAny_bind (wpAny_field hz rfl (x := .ref own) rfl ?_)
    refine wpAny_bind (wpAny_setField_rec hz (by simp) fun g0 z0 s0 => ?_)
    replace z0 : ZQ g0 z ti own .ellipsis f := z0
    replace s0 : Heap.SameBut z hp g0 := s0
    refine wpAny_bind ?_
    simp only [List.zipIdx_cons, List.zipIdx_nil, List.forIn_cons, List.forIn_nil]
    refine wpAny_bind (wpAny_bind (wpAny_onRaise ?_))
    show wpAny _ _ (Builtin.SmallTypes.nextOf (.ref i1) >>= _) _ _ ⟨g0, gn, dr, tk0, os⟩
    by_cases lt : i < n1
    · refine wpAny_bind (D1.item i _ _ _ lt (D1.over t1 s0 S.zf1) fun x h1 k1 hx n1' m1 => wpAny_pure ?_)
      replace m1 : Heap.SameBut i1 g0 h1 := m1
      have u1 : IsTupOf2 h1 own a1 a2 := m1.extBut _ _ S.Ti1 (s0.extBut _ _ S.TOz hO)
      refine wpAny_bind (wpAny_seqItems (s := ⟨h1, gn, dr, k1, os⟩) u1 rfl ?_)
      refine wpAny_bind (updateSeq_IsTupOf2 (s := ⟨h1, gn, dr, k1, os⟩) u1 fun g1 v1 s1 => ?_)
      replace v1 : IsTupOf2 g1 own x a2 := v1
      replace s1 : Heap.SameBut own h1 g1 := s1
      refine wpAny_bind (wpAny_letGo (wpAny_pure ?_))
      have e2 : i = n2 := by omega
      refine wpAny_bind (wpAny_bind (wpAny_onRaise ?_))
      show wpAny _ _ (Builtin.SmallTypes.nextOf (.ref i2) >>= _) _ _ ⟨g1, gn, dr, k1, os⟩
      refine wpAny_bind (D2.done ⟨g1, gn, dr, k1, os⟩ _ _ (by rw [← e2]; exact D2.over (D2.over (D2.over t2 s0 S.zf2) m1 S.sep1_2) s1 S.Tf2) fun r e hr he => ?_)
      replace hr : Heap.ExtBut i2 g1 r := hr
      obtain ⟨oe, o1, o2⟩ := he
      replace o1 : r.get? e = some oe := o1
      have zr : ZQ r z ti own .ellipsis f := hr _ _ S.zi2 (s1.extBut _ _ S.TOz.symm (m1.extBut _ _ S.zi1 z0))
      have ez : e ≠ z := fun t => by subst t; rw [zr] at o1; cases o1; simp at o2
      refine wpAny_setField_rec (s := ⟨r, gn, dr, k1, os⟩) zr (by simp) fun r2 _ sr => ?_
      replace sr : Heap.SameBut z r r2 := sr
      exact k r2 k1 e (fun c o c1 c2 c3 c4 t => sr.extBut _ _ c1 (hr _ _ c4 (s1.extBut _ _ c2 (m1.extBut _ _ c3 (s0.extBut _ _ c1 t))))) ⟨oe, sr.extBut _ _ ez o1, o2⟩
    · have e1 : i = n1 := by omega
      refine wpAny_bind (D1.done ⟨g0, gn, dr, tk0, os⟩ _ _ (by rw [← e1]; exact D1.over t1 s0 S.zf1) fun r e hr he => ?_)
      replace hr : Heap.ExtBut i1 g0 r := hr
      obtain ⟨oe, o1, o2⟩ := he
      replace o1 : r.get? e = some oe := o1
      have zr : ZQ r z ti own .ellipsis f := hr _ _ S.zi1 z0
      have ez : e ≠ z := fun t => by subst t; rw [zr] at o1; cases o1; simp at o2
      refine wpAny_setField_rec (s := ⟨r, gn, dr, tk0, os⟩) zr (by simp) fun r2 _ sr => ?_
      replace sr : Heap.SameBut z r r2 := sr
      exact k r2 tk0 e (fun c o c1 c2 c3 c4 t => sr.extBut _ _ c1 (hr _ _ c3 (s0.extBut _ _ c1 t))) ⟨oe, sr.extBut _ _ ez o1, o2⟩
  · replace sg : Heap.SameBut z hp g := sg
    simp only [Bool.false_eq_true, if_false]
    refine wpAny_bind ?_
    rw [← Array.forIn_toList]
    simp only [List.forIn_cons, List.forIn_nil]
    refine wpAny_bind (wpAny_bind (wpAny_holding ?_))
    show wpAny _ _ (Builtin.SmallTypes.nextOf (.ref i1) >>= _) _ _ ⟨g, gn, dr, tk0, os⟩
    by_cases lt : i < n1
    · refine wpAny_bind (D1.item i _ _ _ lt (D1.over t1 sg S.zf1) fun x h1 k1 hx n1' m1 => wpAny_pure ?_)
      replace m1 : Heap.SameBut i1 g h1 := m1
      have e2 : i = n2 := by omega
      refine wpAny_pure ?_
      refine wpAny_bind (wpAny_bind (wpAny_holding ?_))
      show wpAny _ _ (Builtin.SmallTypes.nextOf (.ref i2) >>= _) _ _ ⟨h1, gn, dr, k1, os⟩
      refine wpAny_bind (D2.done ⟨h1, gn, dr, k1, os⟩ _ _ (by rw [← e2]; exact D2.over (D2.over t2 sg S.zf2) m1 S.sep1_2) fun r e hr he => ?_)
      replace hr : Heap.ExtBut i2 h1 r := hr
      exact k r k1 e (fun c o c1 c2 c3 c4 t => hr _ _ c4 (m1.extBut _ _ c3 (sg.extBut _ _ c1 t))) he
    · have e1 : i = n1 := by omega
      refine wpAny_bind (D1.done ⟨g, gn, dr, tk0, os⟩ _ _ (by rw [← e1]; exact D1.over t1 sg S.zf1) fun r e hr he => ?_)
      replace hr : Heap.ExtBut i1 g r := hr
      exact k r tk0 e (fun c o c1 c2 c3 c4 t => hr _ _ c3 (sg.extBut _ _ c1 t)) he
theorem zq_next {Q : Value → Shared → Prop} (S : ZipSep2 z ti own i1 i2 p1 p2) (D1 : Draws prog w A.in1 i1 p1 n1 R1 T1) (D2 : Draws prog w A.in1 i2 p2 n2 R2 T2)
    (hz : ZQ s.heap z ti own q f) (hq : OutQ q) (hI : IsTupOf2 s.heap ti (.ref i1) (.ref i2)) (hO : IsTupOf2 s.heap own a1 a2) (t1 : T1 i s.heap) (t2 : T2 i s.heap) (l1 : i < n1) (l2 : i < n2)
    (k : ∀ x y g tk q2 f2, R1 i x → R2 i y → ZQ g z ti own q2 f2 → OutQ q2 → (∃ b1 b2, IsTupOf2 g own b1 b2) → T1 (i + 1) g → T2 (i + 1) g → IsTupOf2 g s.heap.objs.size x y → g.objs.size = s.heap.objs.size + 1 →
      (∀ c o, c ≠ z → c ≠ own → c ≠ i1 → c ≠ i2 → s.heap.get? c = some o → g.get? c = some o) → Q (.ref s.heap.objs.size) { s with heap := g, toks := tk }) :
    wpAny (model prog w) A (Builtin.SmallTypes.nextOf (.ref z)) Q E s := by
  have ty : s.TypeIs (.ref z) "zip" := ⟨_, hz, rfl⟩
  unfold Builtin.SmallTypes.nextOf
  refine wpAny_bind (wpAny_callSpecial?_slot (name := Str.ofString "__next__") ty PySem.F.slot_zip_next (wpAny_call_entry PySem.F.slot_zip_next ty PySem.F.entry_zip_next ?_ (PySem.F.args_zip_next_1 _)))
  exact zq_item S D1 D2 hz hq hI hO t1 t2 l1 l2 fun x y g tk q2 f2 u1 u2 u3 u4 u5 u6 u7 u8 u9 u10 => wpAny_pure (k x y g tk q2 f2 u1 u2 u3 u4 u5 u6 u7 u8 u9 u10)
theorem zq_stop {Q : Value → Shared → Prop} (S : ZipSep2 z ti own i1 i2 p1 p2) (D1 : Draws prog w A.in1 i1 p1 n1 R1 T1) (D2 : Draws prog w A.in1 i2 p2 n2 R2 T2)
    (hz : ZQ s.heap z ti own q f) (hq : OutQ q) (hI : IsTupOf2 s.heap ti (.ref i1) (.ref i2)) (hO : IsTupOf2 s.heap own a1 a2) (t1 : T1 i s.heap) (t2 : T2 i s.heap) (l1 : i ≤ n1) (l2 : i ≤ n2) (hl : i = n1 ∨ i = n2)
    (k : ∀ g tk e, (∀ c o, c ≠ z → c ≠ own → c ≠ i1 → c ≠ i2 → s.heap.get? c = some o → g.get? c = some o) → (∃ o, g.get? e = some o ∧ o.cls = .type "StopIteration") → E (.ref e) { s with heap := g, toks := tk }) :
    wpAny (model prog w) A (Builtin.SmallTypes.nextOf (.ref z)) Q E s := by
  have ty : s.TypeIs (.ref z) "zip" := ⟨_, hz, rfl⟩
  unfold Builtin.SmallTypes.nextOf
  refine wpAny_bind (wpAny_callSpecial?_slot (name := Str.ofString "__next__") ty PySem.F.slot_zip_next (wpAny_call_entry PySem.F.slot_zip_next ty PySem.F.entry_zip_next ?_ (PySem.F.args_zip_next_1 _)))
  exact zq_end S D1 D2 hz hq hI hO t1 t2 l1 l2 hl k
/-- enumerate's next, whatever it walks over -/
theorem en_item {e it : Addr} {old : Value} {Q : Value → Shared → Prop} (he : IsEnum s.heap e it ((i : Nat) : Int) old)
    (hn : wpAny (model prog w) A (Builtin.SmallTypes.nextOf (.ref it)) (fun x t => IsEnum t.heap e it ((i : Nat) : Int) old ∧ ∀ g, IsEnumOut g e it ((i : Int) + 1) x t.heap.objs.size → g.get? t.heap.objs.size = some { cls := .type "tuple", data := .seq #[.int i t.toks, x] } →
      g.objs.size = t.heap.objs.size + 1 → (∀ b o, b ≠ e → t.heap.get? b = some o → g.get? b = some o) → Q (.ref t.heap.objs.size) { t with heap := g, toks := t.toks + 1 }) E s) :
    wpAny (model prog w) A (Builtin.«enumerate.__next__» ⟨[.ref e], []⟩) (fun r t => ∃ v, r = .done (.ret v) ∧ Q v t) E s := by
  show wpAny _ _ (field (.ref e) 2 >>= _) _ _ _
  refine wpAny_bind (wpAny_field he rfl (x := .ref it) rfl ?_)
  refine wpAny_bind (wpAny_mono hn (fun x t ht => ?_) fun _ _ h => h)
  obtain ⟨e1, k⟩ := ht
  obtain ⟨h1, gn, dr, tk, os⟩ := t
  replace e1 : IsEnum h1 e it ((i : Nat) : Int) old := e1
  show wpAny _ _ (field (.ref e) 3 >>= _) _ _ ⟨h1, gn, dr, tk, os⟩
  refine wpAny_bind (wpAny_field e1 rfl (x := rawInt i) rfl ?_)
  show wpAny _ _ (field (.ref e) 4 >>= _) _ _ ⟨h1, gn, dr, tk, os⟩
  refine wpAny_bind (wpAny_field e1 rfl (x := .none) rfl ?_)
  show wpAny _ _ (mkInt i >>= _) _ _ ⟨h1, gn, dr, tk, os⟩
  refine wpAny_bind (wpAny_mkInt ?_)
  show wpAny _ _ (setField (.ref e) 3 (rawInt ((i : Int) + 1)) >>= _) _ _ ⟨h1, gn, dr, tk + 1, os⟩
  refine wpAny_bind (wpAny_setField_rec e1 (by simp) fun h2 e2 s2 => ?_)
  replace s2 : Heap.SameBut e h1 h2 := s2
  replace e2 : IsEnum h2 e it ((i : Int) + 1) old := e2
  show wpAny _ _ (setField (.ref e) 4 .none >>= _) _ _ ⟨h2, gn, dr, tk + 1, os⟩
  refine wpAny_bind (wpAny_setField_rec e2 (by simp) fun h3 e3 s3 => ?_)
  replace s3 : Heap.SameBut e h2 h3 := s3
  replace e3 : IsEnum h3 e it ((i : Int) + 1) old := e3
  show wpAny _ _ (newTuple [.int i tk, x] >>= _) _ _ ⟨h3, gn, dr, tk + 1, os⟩
  refine wpAny_bind (wpAny_newTuple ?_)
  have e4 : IsEnum (h3.push { cls := .type "tuple", data := .seq #[.int i tk, x] }) e it ((i : Int) + 1) old := Heap.get?_push_of_some _ e3
  have z3 : h3.objs.size = h1.objs.size := by rw [s3.1, s2.1]
  have t4 : (h3.push { cls := .type "tuple", data := .seq #[.int i tk, x] }).get? h1.objs.size = some { cls := .type "tuple", data := .seq #[.int i tk, x] } := by rw [← z3]; exact Heap.get?_push_size _ rfl
  have z4 : (h3.push { cls := .type "tuple", data := .seq #[.int i tk, x] }).objs.size = h1.objs.size + 1 := by rw [Heap.size_push, z3]
  have k4 : ∀ b o, b ≠ e → h1.get? b = some o → (h3.push { cls := .type "tuple", data := .seq #[.int i tk, x] }).get? b = some o := fun b o hb y => Heap.get?_push_of_some _ (s3.extBut b o hb (s2.extBut b o hb y))
  generalize h3.push { cls := .type "tuple", data := .seq #[.int i tk, x] } = h4 at e4 t4 z4 k4
  have el : e < h1.objs.size := Heap.lt_size e1
  show wpAny _ _ (Builtin.SmallTypes.ownedTupleIsFree (.ref e) >>= _) _ _ ⟨h4, gn, dr, tk + 1, os⟩
  rw [z3]
  clear e3 s3 e2 s2 z3 h3 h2
  refine wpAny_bind ?_
  unfold Builtin.SmallTypes.ownedTupleIsFree
  refine wpAny_bind (wpAny_field e4 rfl (x := .none) rfl (wpAny_pure ?_))
  simp only [if_true]
  refine wpAny_bind (wpAny_rule ?_)
  refine wpAny_bind (wpAny_field e4 rfl (x := old) rfl ?_)
  refine wpAny_bind (wpAny_setField_rec e4 (by simp) fun h5 e5 s5 => ?_)
  replace s5 : Heap.SameBut e h4 h5 := s5
  replace e5 : IsEnum h5 e it ((i : Int) + 1) x := e5
  show wpAny _ _ (Builtin.SmallTypes.ownedTupleHandOut (.ref e) (.ref h1.objs.size) >>= _) _ _ ⟨h5, gn, dr, tk + 1, os⟩
  refine wpAny_bind ?_
  unfold Builtin.SmallTypes.ownedTupleHandOut
  refine wpAny_bind (wpAny_setField_rec e5 (by simp) fun h6 e6 s6 => ?_)
  replace s6 : Heap.SameBut e h5 h6 := s6
  replace e6 : IsEnumOut h6 e it ((i : Int) + 1) x h1.objs.size := e6
  refine wpAny_setField_rec e6 (by simp) fun h7 e7 s7 => ?_
  replace s7 : Heap.SameBut e h6 h7 := s7
  replace e7 : IsEnumOut h7 e it ((i : Int) + 1) x h1.objs.size := e7
  have up : ∀ b o, b ≠ e → h4.get? b = some o → h7.get? b = some o := fun b o hb y => s7.extBut b o hb (s6.extBut b o hb (s5.extBut b o hb y))
  exact wpAny_bind (wpAny_letGo (wpAny_pure ⟨_, rfl, k h7 e7 (up _ _ (Nat.ne_of_gt el) t4) (by rw [s7.1, s6.1, s5.1, z4]) fun b o hb y => up b o hb (k4 b o hb y)⟩))
theorem en_next {e it : Addr} {old : Value} {Q : Option Value → Shared → Prop} (he : IsEnum s.heap e it ((i : Nat) : Int) old)
    (hn : wpAny (model prog w) A.in1 (Builtin.SmallTypes.nextOf (.ref it)) (fun x t => IsEnum t.heap e it ((i : Nat) : Int) old ∧ ∀ g, IsEnumOut g e it ((i : Int) + 1) x t.heap.objs.size → g.get? t.heap.objs.size = some { cls := .type "tuple", data := .seq #[.int i t.toks, x] } →
      g.objs.size = t.heap.objs.size + 1 → (∀ b o, b ≠ e → t.heap.get? b = some o → g.get? b = some o) → Q (some (.ref t.heap.objs.size)) { t with heap := g, toks := t.toks + 1 })
      (fun v t => wpAny (model prog w) A (do if (← isInstance v (.type "StopIteration")) then pure none else throw v) Q E t) s) :
    wpAny (model prog w) A (pyNext (.ref e)) Q E s := by
  have ty : s.TypeIs (.ref e) "enumerate" := ⟨_, he, rfl⟩
  unfold pyNext
  refine wpAny_bind (wpAny_attempt (wpAny_callSpecial?_slot (name := Str.ofString "__next__") ty PySem.F.slot_enumerate_next (wpAny_call_entry PySem.F.slot_enumerate_next ty PySem.F.entry_enumerate_next ?_ (PySem.F.args_enumerate_next_1 _))))
  exact en_item he (wpAny_mono hn (fun x t ht => ⟨ht.1, fun g a b c d => wpAny_pure (ht.2 g a b c d)⟩) fun _ _ h => h)
theorem en_stop {e it : Addr} {c : Int} {old : Value} {Q : Option Value → Shared → Prop} (he : IsEnum s.heap e it c old)
    (hn : wpAny (model prog w) A.in1 (Builtin.SmallTypes.nextOf (.ref it)) (fun _ _ => False) (fun v t => ∃ x, v = .ref x ∧ (∃ o, t.heap.get? x = some o ∧ o.cls = .type "StopIteration") ∧ Q none t) s) :
    wpAny (model prog w) A (pyNext (.ref e)) Q E s := by
  have ty : s.TypeIs (.ref e) "enumerate" := ⟨_, he, rfl⟩
  unfold pyNext
  refine wpAny_bind (wpAny_attempt (wpAny_callSpecial?_slot (name := Str.ofString "__next__") ty PySem.F.slot_enumerate_next (wpAny_call_entry PySem.F.slot_enumerate_next ty PySem.F.entry_enumerate_next ?_ (PySem.F.args_enumerate_next_1 _))))
  show wpAny _ _ (field (.ref e) 2 >>= _) _ _ _
  refine wpAny_bind (wpAny_field he rfl (x := .ref it) rfl ?_)
  refine wpAny_bind (wpAny_mono hn (fun _ _ h => h.elim) fun v t ht => ?_)
  obtain ⟨x, rfl, ⟨o, ho, hc⟩, hq⟩ := ht
  refine wpAny_bind (wpAny_isInstance (T := "StopIteration") (b := true) ⟨o, ho, hc⟩ isSubtype_stop ?_)
  exact wpAny_pure hq
end
theorem meets_enumZ (z ti own : Addr) :
    Meets (Builtin.«enumerate.__new__» ⟨[.type "enumerate", .ref z], []⟩) (fun _ R s => IsZip s.heap z ti own .none ∧
      R (.ok (.ret (.ref s.heap.objs.size))) { s with heap := s.heap.push { cls := .type "enumerate", data := .fields #[.none, .bool false, .ref z, rawInt 0, .none, .none] } }) :=
  .of_wp fun prog w A R s h => by
    obtain ⟨hp, g, d, tk, os⟩ := s
    obtain ⟨hl, h⟩ := h
    have hsub := sub_enumerate
    have hL : IsZip (Shared.heap ⟨hp, g, d, tk, os⟩) z ti own .none := hl
    wp_walk using wpAny_loadPart' hl
    refine wpAny_stack_any fun st => wpAny_pure ?_
    split
    · rename_i c _ _ _ _ _
      cases (c == Value.type "enumerate")
      · wp_walk using wpAny_loadPart' hl, wpAny_pyIter_zip hL
        exact ⟨_, rfl, h⟩
      · wp_walk using wpAny_loadPart' hl, wpAny_pyIter_zip hL
        exact ⟨_, rfl, h⟩
    · wp_walk using wpAny_loadPart' hl, wpAny_pyIter_zip hL
      exact ⟨_, rfl, h⟩
theorem call_enumZ {prog : Program} {w : World} {A : Around} {E : Value → Shared → Prop} {s : Shared} {z ti own : Addr} {Q : Value → Shared → Prop} (hz : IsZip s.heap z ti own .none)
    (h : ∀ h', IsEnum h' s.heap.objs.size z 0 .none → h'.objs.size = s.heap.objs.size + 1 → (∀ b o, s.heap.get? b = some o → h'.get? b = some o) → Q (.ref s.heap.objs.size) { s with heap := h' }) :
    wpAny (model prog w) A (call (.type "enumerate") [.ref z]) Q E s := by
  refine callType_new PySem.F.called_enumerate (by decide) (PySem.F.typeCall_enumerate_1 _) (PySem.F.newCall_enumerate_1 _) (fun obj => PySem.F.args_object_init_2 obj _) PySem.F.entry_enumerate_new
    (meets_enumZ z ti own) ⟨hz, ?_⟩
  show _ ∧ _
  have he : IsEnum (s.heap.push { cls := .type "enumerate", data := .fields #[.none, .bool false, .ref z, rawInt 0, .none, .none] }) s.heap.objs.size z 0 .none := Heap.get?_push_size _ rfl
  exact ⟨⟨_, he, rfl⟩, h _ he (Heap.size_push ..) fun b o x => Heap.get?_push_of_some _ x⟩
/-- place and pair, each in a new tuple -/
def ItZ (ps : List (V × V)) : It :=
  ⟨fun i _ => i < ps.length, fun i H v H' => ∃ (T U : Addr) (x y : V), v = .ref T ∧ H U = none ∧ T ≠ U ∧ H T = none ∧ H' = upd (upd H U (.tup [x, y])) T (.tup [.int (i : Nat), .ref U]) ∧ ps[i]? = some (x, y), fun i _ => i = ps.length⟩
theorem turn_enumZ {P : Program} {w : World} {K : PySem.W.Frag} {elts : List Expr} {kk : Nat} {tpos : Pos} (x y : Str) (t u : Tok) (e z ti own i1 i2 : Addr) (S : ZipSep2 z ti own i1 i2 [i1] [i2])
    (ez : e ≠ z) (eI : e ≠ ti) (eo : e ≠ own) (e1 : e ≠ i1) (e2 : e ≠ i2) :
    Turn P w K (.Tuple elts kk tpos) (ItZ (zipS x y)) [e, z, ti, own, i1, i2] e (fun i h => (∃ old, IsEnum h e z ((i : Nat) : Int) old) ∧ (∃ q f, ZQ h z ti own q f ∧ OutQ q) ∧ IsTupOf2 h ti (.ref i1) (.ref i2) ∧ (∃ a1 a2, IsTupOf2 h own a1 a2) ∧ h.IsStrIter i1 (strIterType x) x t i ∧ h.IsStrIter i2 (strIterType y) y u i) where
  mem := by simp
  obj := by
    rintro i h ⟨⟨_, z0⟩, ⟨_, _, z1, _⟩, z2, ⟨_, _, z3⟩, z4, z5⟩ b hb
    have e' : b = e ∨ b = z ∨ b = ti ∨ b = own ∨ b = i1 ∨ b = i2 := by simpa using hb
    rcases e' with q | q | q | q | q | q
    · rw [q]; exact ⟨_, z0, fun v q => nomatch q⟩
    · rw [q]; exact ⟨_, z1, fun v q => nomatch q⟩
    · rw [q]; exact ⟨_, z2, fun v q => nomatch q⟩
    · rw [q]; exact ⟨_, z3, fun v q => nomatch q⟩
    · rw [q]; exact text_obj z4
    · rw [q]; exact text_obj z5
  keep := by
    rintro i h h' ⟨⟨old, z0⟩, ⟨q, f, z1, hq⟩, z2, ⟨a1, a2, z3⟩, ⟨o4, z4, r4⟩, o5, z5, r5⟩ k
    exact ⟨⟨old, k e (by simp) _ z0⟩, ⟨q, f, k z (by simp) _ z1, hq⟩, k ti (by simp) _ z2, ⟨a1, a2, k own (by simp) _ z3⟩, ⟨o4, k i1 (by simp) _ z4, r4⟩, o5, k i2 (by simp) _ z5, r5⟩
  item := by
    intro X hP hw hK hcm i pins s σ H E I hf st hg
    subst hP hw hK
    obtain ⟨⟨old, he⟩, ⟨q, f, hz, hq⟩, hI, ⟨a1, a2, hO⟩, r1, r2⟩ := st
    have hlt : i < (zipS x y).length := hg
    rw [zipS_len] at hlt
    have l1 : i < x.cps.size := by omega
    have l2 : i < y.cps.size := by omega
    have D1 := Draws.text (prog := X.prog) (w := X.w) (A := X.A.in1.in1) (I.ok.hd hcm) i1 x t
    have D2 := Draws.text (prog := X.prog) (w := X.w) (A := X.A.in1.in1) (I.ok.hd hcm) i2 y u
    refine en_next he (zq_next S D1 D2 hz hq hI hO r1 r2 l1 l2 fun vx vy g tk q2 f2 hx hy zg oq og g1 g2 hU sz kp => ⟨kp e _ ez eo e1 e2 he, fun g3 eg hT sz3 kp3 => ?_⟩)
    obtain ⟨c, k1, hc1, rfl⟩ := hx
    obtain ⟨d, k2, hd1, rfl⟩ := hy
    obtain ⟨b1, b2, og⟩ := og
    refine ⟨_, rfl, wpAny_letOwnedTupleGo_enum (s := { s with heap := g3, toks := tk + 1 }) eg fun g4 e4 s4 => ?_⟩
    replace s4 : Heap.SameBut e g3 g4 := s4
    replace sz3 : g3.objs.size = g.objs.size + 1 := sz3
    have el : e < s.heap.objs.size := Heap.lt_size he
    have hsz : g.objs.size = s.heap.objs.size + 1 := sz
    have hTn : e ≠ g.objs.size := by rw [hsz]; exact Nat.ne_of_lt (Nat.lt_succ_of_lt el)
    have hT4 : g4.get? g.objs.size = some { cls := .type "tuple", data := .seq #[.int i tk, .ref s.heap.objs.size] } := (s4.2 _ hTn.symm).trans hT
    have newU : ObjOk X.prog X.w (upd H s.heap.objs.size (.tup [sgn c, sgn d])) g s.heap.objs.size (.tup [sgn c, sgn d]) :=
      ⟨by show 2 ≤ sizeLine; decide, [.str ⟨#[c]⟩ k1, .str ⟨#[d]⟩ k2], .cons ⟨k1, rfl⟩ (.cons ⟨k2, rfl⟩ .nil), ⟨_, hU, rfl, _, rfl⟩⟩
    have I1 : Inv X pins σ (upd H s.heap.objs.size (.tup [sgn c, sgn d])) { s with heap := g, toks := tk } :=
      I.turnedNew (ch := [e, z, ti, own, i1, i2]) (fun b ob hb q => kp b ob (fun z => hb (by simp [z])) (fun z => hb (by simp [z])) (fun z => hb (by simp [z])) (fun z => hb (by simp [z])) q) hf (Nat.le_refl _) newU
    have old6 : ∀ b ∈ [e, z, ti, own, i1, i2], b < s.heap.objs.size := by
      intro b hb
      have e' : b = e ∨ b = z ∨ b = ti ∨ b = own ∨ b = i1 ∨ b = i2 := by simpa using hb
      rcases e' with q | q | q | q | q | q
      · rw [q]; exact el
      · rw [q]; exact Heap.lt_size hz
      · rw [q]; exact Heap.lt_size hI
      · rw [q]; exact Heap.lt_size hO
      · rw [q]; obtain ⟨_, q, _⟩ := r1; exact Heap.lt_size q
      · rw [q]; obtain ⟨_, q, _⟩ := r2; exact Heap.lt_size q
    have hf1 : ∀ b ∈ [e, z, ti, own, i1, i2], FpOk X pins (upd H s.heap.objs.size (.tup [sgn c, sgn d])) b := fun b hb => ⟨by rw [upd_ne (Nat.ne_of_lt (old6 b hb))]; exact (hf b hb).1, (hf b hb).2⟩
    have newT : ObjOk X.prog X.w (upd (upd H s.heap.objs.size (.tup [sgn c, sgn d])) g.objs.size (.tup [.int (i : Nat), .ref s.heap.objs.size])) g4 g.objs.size (.tup [.int (i : Nat), .ref s.heap.objs.size]) :=
      ⟨by show 2 ≤ sizeLine; decide, [.int i tk, .ref s.heap.objs.size], .cons ⟨_, rfl⟩ (.cons rfl .nil), ⟨_, hT4, rfl, _, rfl⟩⟩
    have I2 : Inv X pins σ (upd (upd H s.heap.objs.size (.tup [sgn c, sgn d])) g.objs.size (.tup [.int (i : Nat), .ref s.heap.objs.size])) { s with heap := g4, toks := tk + 1 } :=
      I1.turnedNew (ch := [e, z, ti, own, i1, i2]) (fun b ob hb q => (s4.2 b (fun z => hb (by simp [z]))).trans (kp3 b ob (fun z => hb (by simp [z])) q)) hf1 (Nat.le_refl _) newT
    have stay : ∀ b o, b ≠ e → g.get? b = some o → g4.get? b = some o := fun b o hb q => (s4.2 b hb).trans (kp3 b o hb q)
    refine ⟨.ref g.objs.size, _, I2, rfl, ⟨g.objs.size, s.heap.objs.size, sgn c, sgn d, rfl, I.hok.fresh (Nat.le_refl _), (by rw [hsz]; exact Nat.succ_ne_self _), I.hok.fresh (by rw [hsz]; exact Nat.le_succ _), rfl, zipS_get hc1 hd1⟩, ⟨⟨.ref s.heap.objs.size, ?_⟩, ⟨q2, f2, stay z _ ez.symm zg, oq⟩, stay ti _ eI.symm (kp ti _ S.TIz S.TITO S.TIi1 S.TIi2 hI), ⟨b1, b2, stay own _ eo.symm og⟩, ?_, ?_⟩, fun b hb => ?_⟩
    · have e1 : ((i + 1 : Nat) : Int) = (i : Int) + 1 := by omega
      rw [e1]
      exact e4
    · obtain ⟨o, ho, r⟩ := g1
      exact ⟨o, stay i1 _ e1.symm ho, r⟩
    · obtain ⟨o, ho, r⟩ := g2
      exact ⟨o, stay i2 _ e2.symm ho, r⟩
    · have := old6 b hb
      rw [upd_ne (Nat.ne_of_lt (by rw [hsz]; exact Nat.lt_succ_of_lt this)), upd_ne (Nat.ne_of_lt this)]
      exact (hf b hb).1
  done := by
    intro X hP hw hK hcm i pins s σ H E I hf st hg
    subst hP hw hK
    obtain ⟨⟨old, he⟩, ⟨q, f, hz, hq⟩, hI, ⟨a1, a2, hO⟩, r1, r2⟩ := st
    have hl : i = (zipS x y).length := hg
    rw [zipS_len] at hl
    have D1 := Draws.text (prog := X.prog) (w := X.w) (A := X.A.in1.in1) (I.ok.hd hcm) i1 x t
    have D2 := Draws.text (prog := X.prog) (w := X.w) (A := X.A.in1.in1) (I.ok.hd hcm) i2 y u
    refine en_stop he (zq_stop S D1 D2 hz hq hI hO r1 r2 (by omega) (by omega) (by omega) fun g tk x kp hx => ⟨x, rfl, hx, rfl, ?_⟩)
    exact I.turnedL (t' := tk) (ch := [e, z, ti, own, i1, i2]) (fun b ob hb q => kp b ob (fun z => hb (by simp [z])) (fun z => hb (by simp [z])) (fun z => hb (by simp [z])) (fun z => hb (by simp [z])) q) hf
  self := fun A i s Q E st h => let ⟨⟨_, he⟩, _⟩ := st; wpAny_pyIter_enum he h
def iEnumZ (ta : TA) : TI := fun σ H R => ta σ H fun vs H1 => ∃ x y, vs = [.str x, .str y] ∧ R (ItZ (zipS x y)) H1
theorem pi_enumZ {X : Cx} {a b : Expr} {ta : TA} {p p2 pos pos2 tpos : Pos} {elts : List Expr} {kk : Nat} (hg : Gl X "enumerate") (hm : X.mg "enumerate" = none) (hg2 : Gl X "zip") (hm2 : X.mg "zip" = none) (ha : PA X [a, b] ta)
    (hs : starEach [a, b] X.env = (false, eval a X.env) :: starEach [b] X.env := by rfl) (hpl : (backTo pos2 (starEach [b] X.env)).any (·.1) = false := by rfl) (hc : X.calm = true := by rfl) :
    PI X (.Tuple elts kk tpos) (.Call (.Name "enumerate" p) [.Call (.Name "zip" p2) [a, b] [] pos2] [] pos) (iEnumZ ta) := by
  refine ⟨fun pins s σ H R I h => ?_⟩
  refine Call_ (ld_blt I hg hm boot_enumerate (PyProof.Rows.callWith_type1 (args_cons (Call_ (ld_blt I hg2 hm2 PyProof.Rows.boot_zip (PyProof.Rows.callWith_type1 (thn (ha.run pos2 pins s σ H _ I h) fun us s1 ⟨vs, H1, I1, r1, q1⟩ => ?_) hs hpl))))))
  obtain ⟨x, y, ex, q⟩ := q1
  subst ex
  cases r1 with
  | cons r rr =>
    cases rr with
    | cons r' rr =>
      cases rr
      obtain ⟨t, rfl⟩ := r
      obtain ⟨u, rfl⟩ := r'
      refine zip_begins2 (begins_text x t) (begins_text y u) trivial trivial fun h' hz hTI hTO h1 h2 hsz hk => args_nil (call_enumZ hz fun h2' he hsz2 hk2 => wpAny_pyIter_enum he ?_)
      replace hsz2 : h2'.objs.size = h'.objs.size + 1 := hsz2
      have hkk : ∀ b o, s1.heap.get? b = some o → h2'.get? b = some o := fun b o q => hk2 b o (hk b o q)
      have I2 : Inv X pins σ H1 { s1 with heap := h2' } := I1.kept (t' := s1.toks) hkk
      have i1 : h2'.IsStrIter s1.heap.objs.size (strIterType x) x t 0 := ⟨_, hk2 _ _ h1, rfl, rfl⟩
      have i2 : h2'.IsStrIter (s1.heap.objs.size + 1) (strIterType y) y u 0 := ⟨_, hk2 _ _ h2, rfl, rfl⟩
      have S : ZipSep2 (s1.heap.objs.size + 4) (s1.heap.objs.size + 2) (s1.heap.objs.size + 3) s1.heap.objs.size (s1.heap.objs.size + 1) [s1.heap.objs.size] [s1.heap.objs.size + 1] :=
        zip_sep2 (N := s1.heap.objs.size) (fp1 := []) (fp2 := []) (fun _ h => nomatch h) (fun _ h => nomatch h)
      have hE : h'.objs.size = s1.heap.objs.size + 5 := hsz
      refine ⟨h'.objs.size, [h'.objs.size, s1.heap.objs.size + 4, s1.heap.objs.size + 2, s1.heap.objs.size + 3, s1.heap.objs.size, s1.heap.objs.size + 1], _, ItZ (zipS x y), H1, rfl, I2,
        turn_enumZ x y t u h'.objs.size (s1.heap.objs.size + 4) (s1.heap.objs.size + 2) (s1.heap.objs.size + 3) s1.heap.objs.size (s1.heap.objs.size + 1) S (Nat.ne_of_gt (by rw [hE]; exact Nat.add_lt_add_left (by decide) _)) (Nat.ne_of_gt (by rw [hE]; exact Nat.add_lt_add_left (by decide) _)) (Nat.ne_of_gt (by rw [hE]; exact Nat.add_lt_add_left (by decide) _)) (Nat.ne_of_gt (by rw [hE]; exact Nat.lt_add_of_pos_right (by decide))) (Nat.ne_of_gt (by rw [hE]; exact Nat.add_lt_add_left (by decide) _)),
        ⟨⟨.none, he⟩, ⟨_, _, hk2 _ _ hz, .inl rfl⟩, hk2 _ _ hTI, ⟨_, _, hk2 _ _ hTO⟩, i1, i2⟩, fun c hcm => ?_, q⟩
      have e' : c = h'.objs.size ∨ c = s1.heap.objs.size + 4 ∨ c = s1.heap.objs.size + 2 ∨ c = s1.heap.objs.size + 3 ∨ c = s1.heap.objs.size ∨ c = s1.heap.objs.size + 1 := by simpa using hcm
      have hle : s1.heap.objs.size ≤ c := by
        rcases e' with z | z | z | z | z | z
        · rw [z, hE]; exact Nat.le_add_right _ _
        · rw [z]; exact Nat.le_add_right _ _
        · rw [z]; exact Nat.le_add_right _ _
        · rw [z]; exact Nat.le_add_right _ _
        · rw [z]; exact Nat.le_refl _
        · rw [z]; exact Nat.le_add_right _ _
      exact I1.fpOk hle (I1.hok.fresh hle)
section
variable {K : PySem.W.Frag} {σ : L2.St} {G A : Hp} {ta : TA}
theorem if_enumZ {a b : List Nat} (h : Era K ta σ G [.s (S a), .s (S b)]) : Itf K (iEnumZ ta) σ G ((a.zip b).zipIdx.map fun p => Dd.U [.i (p.2 : Int), .U [.s (S [p.1.1]), .s (S [p.1.2])]]) := fun G1 A e1 e2 R r =>
  h A (e1.trans e2) _ fun vs A2 ea z => by
    rcases z with _ | ⟨rfl, _ | ⟨rfl, _ | _⟩⟩
    refine ⟨S a, S b, rfl, r _ G1 A2 (.on e2 ea) fun i G' A' e3 e4 => ⟨fun d hd => ?_, fun hi => ?_⟩⟩
    · rw [List.getElem?_map, List.getElem?_zipIdx] at hd
      cases hx : (a.zip b)[i]? with
      | none => rw [hx] at hd; cases hd
      | some p =>
        rw [hx] at hd
        have ed : Dd.U [.i (((0 + i : Nat)) : Int), .U [.s (S [p.1]), .s (S [p.2])]] = d := Option.some.inj hd
        rw [Nat.zero_add] at ed
        have hz : (zipS (S a) (S b))[i]? = some (sgn p.1, sgn p.2) := by
          unfold zipS
          rw [List.getElem?_map]
          have : ((S a).cps.toList.zip (S b).cps.toList)[i]? = some p := hx
          rw [this]
          rfl
        refine ⟨(List.getElem?_eq_some_iff.mp hz).1, fun v A'' hyl => ?_⟩
        obtain ⟨T, U, x, y, rfl, hU, hTU, hT, rfl, hxy⟩ := hyl
        rw [hz] at hxy
        have ep := Option.some.inj hxy
        have ex : x = sgn p.1 := congrArg Prod.fst ep.symm
        have ey : y = sgn p.2 := congrArg Prod.snd ep.symm
        subst ex ey
        have st1 := Step.new (o := .tup [sgn p.1, sgn p.2]) e4 hU
        have hT2 : upd A' U (.tup [sgn p.1, sgn p.2]) T = none := by rw [upd_ne hTU]; exact hT
        refine ⟨_, st1.trans (.new st1.v hT2), ?_⟩
        rw [← ed]
        refine ⟨T, [.int (i : Int), .ref U], rfl, st_of upd_same, .int (i : Int), [.ref U], rfl, rfl, .ref U, [], rfl, ⟨U, [sgn p.1, sgn p.2], rfl, st_of ?_, sgn p.1, [sgn p.2], rfl, rfl, sgn p.2, [], rfl, rfl, rfl⟩, rfl⟩
        rw [upd_ne hTU.symm]
        exact upd_same
    · show i = (zipS (S a) (S b)).length
      rw [List.length_map, List.length_zipIdx, List.length_zip] at hi
      rw [zipS_len, S_size, S_size]
      exact hi
end
end Mi

set_option maxHeartbeats 4000000
namespace Mi
open PySem PySem.Spec PyProof.Rows L2 Evl PySem.W LamX NdefX
/-! ### sorted by a key function of any kind -/
/-- what is data at H is data later -/
def DpX (K : PySem.W.Frag) (H : Hp) (v : V) (d : PyData) : Prop := ∀ H', Ex H H' → Dp K H' v d
theorem DpX.mono {K : PySem.W.Frag} {H H' : Hp} {v : V} {d : PyData} (h : DpX K H v d) (e : Ex H H') : DpX K H' v d := fun H2 e2 => h H2 (e.trans e2)
section
variable {α : Type} {R : Value → α → Prop}
theorem eachR_of {iv : α → V} : ∀ {ys : List α} {us : List Value}, Vals (ys.map iv) us → EachIs (fun u z => RelV (iv z) u) us ys
  | [], _, h => by cases h; exact .nil
  | z :: r, _, h => by
    cases h with
    | cons a b => exact .cons a (eachR_of b)
theorem eachR_vals {iv : α → V} : ∀ {us : List Value} {ys : List α}, EachIs (fun u z => RelV (iv z) u) us ys → Vals (ys.map iv) us
  | _, _, .nil => .nil
  | _, _, .cons a b => .cons a (eachR_vals b)
theorem eachR_more {u : Value} {z : α} (hu : R u z) : ∀ {us : List Value} {ys : List α}, EachIs R us ys → EachIs R (us ++ [u]) (ys ++ [z])
  | _, _, .nil => .cons hu .nil
  | _, _, .cons a b => .cons a (eachR_more hu b)
theorem eachR_at : ∀ {us : List Value} {ys : List α} {i : Nat} {u : Value}, EachIs R us ys → us[i]? = some u → ∃ z, ys[i]? = some z ∧ R u z
  | [], _, _, _, _, h => by simp at h
  | _ :: _, _, 0, _, e, h => by
    cases e with
    | cons a b => exact ⟨_, rfl, Option.some.inj h ▸ a⟩
  | _ :: _, _, i + 1, _, e, h => by
    cases e with
    | cons a b => exact eachR_at (i := i) b h
end
/-- keys of any kind: the kind of sort is not asked where there are fewer than two -/
theorem sorts_one {prog : Program} {w : World} {A : Around} {s : Shared} {vs : List Value} {ds : List PyData} (e : EachIs (fun v d => ∃ as, Reads s.heap v d as) vs ds) (al : AllAlike ds) (few : ds.length < 2) (nn : ∀ d, d ∈ ds → d ≠ .none) (rm : ∀ d, d ∈ ds → A.units + d.depth < cLine) : SortsAt prog w A s (dataKind s.heap ds) vs := by
  refine ⟨fun v hv => ?_, general', fun E x y a b Q ha hb hq => ?_, fun h2 => ?_⟩
  · obtain ⟨d, hd, as, r⟩ := e.left v hv
    exact ⟨_, dataKind_some al hd r⟩
  · obtain ⟨d1, as1, m1, r1, rfl⟩ := dataKind_inv ha
    obtain ⟨d2, as2, m2, r2, rfl⟩ := dataKind_inv hb
    exact oneLt_alike (f := false) (fun z => nomatch z) r1 r2 (al d1 m1 d2 m2) (nn d1 m1) (Nat.lt_of_le_of_lt (Nat.add_le_add_left (Nat.min_le_left _ _) _) (rm d1 m1)) hq
  · have := e.length
    omega
abbrev ordk {α : Type} (b : Bool) (kd : α → PyData) (ys : List α) : List α := ys.mergeSort (dataLe b kd)
/-- the keys can be told apart -/
def KeysOk {α : Type} (kd : α → PyData) (ys : List α) : Prop := AllAlike (ys.map kd) ∧ (Sortable (ys.map kd) ∨ (ys.length < 2 ∧ ∀ y ∈ ys, kd y ≠ .none)) ∧ ∀ y ∈ ys, (kd y).depth ≤ 60
theorem KeysOk.sorts {α : Type} {kd : α → PyData} {ys : List α} (h : KeysOk kd ys) {prog : Program} {w : World} {A : Around} {s : Shared} {vs : List Value} (e : EachIs (fun v d => ∃ as, Reads s.heap v d as) vs (ys.map kd)) (hu : A.units + 65 < cLine) : SortsAt prog w A s (dataKind s.heap (ys.map kd)) vs := by
  obtain ⟨h1, h2, h3⟩ := h
  have rm : ∀ d, d ∈ ys.map kd → A.units + d.depth < cLine := fun d hd => by
    obtain ⟨y, hy, rfl⟩ := List.mem_map.mp hd
    have := h3 y hy
    omega
  rcases h2 with h2 | ⟨h2, h4⟩
  · exact SortsAt.data e h1 h2 rm
  · exact sorts_one e h1 (by rw [List.length_map]; exact h2) (fun d hd => by
      obtain ⟨y, hy, rfl⟩ := List.mem_map.mp hd
      exact h4 y hy) rm
theorem sorted_any {X : Cx} {b : Bool} {kw : List (Str × Value)} {pins : List (Addr × Obj)} {s : Shared} {σ : L2.St} {H : Hp} {a : Addr} {α : Type} {ys : List α} {iv : α → V} {kd : α → PyData} {fv : Value} {Q : VK}
    (hu : X.A.units + 67 < cLine) (I : Inv X pins σ H s) (hs : SqL X.K H a (ys.map iv)) (ko : KeysOk kd ys)
    (call : ∀ (t : Shared) (pins' : List (Addr × Obj)) (H' : Hp) (z : α) (u : Value), z ∈ ys → Ex H H' → Inv X pins' σ H' t → RelV (iv z) u → wpAny (model X.prog X.w) X.A.in1.in1 (call fv [u]) (EP X pins' σ fun v H2 => Ex H' H2 ∧ DpX X.K H2 v (kd z)) (fun _ _ => False) t)
    (ha1 : argsOk "sorted" ⟨[.ref a], kw⟩) (ha2 : ∀ x, argsOk "list.sort" ⟨[.ref x], kw⟩) (ht : ∀ x, Builtin.«list.sort» ⟨[.ref x], kw⟩ = ksk_tree x fv b)
    (q : ∀ H2 p, Ex H H2 → H2 p = none → Q (.ref p) (upd H2 p (.lst ((ordk b kd ys).map iv)))) :
    wpAny (model X.prog X.w) X.A (PySem.call (.builtin "sorted") [.ref a] kw) (EP X pins σ Q) X.xe s := by
  obtain ⟨its, rv, hl, hz⟩ := I.list hs
  have hev := eachR_of rv
  have hle : its.length = ys.length := hev.length
  have hZ : its.length ≤ sizeLine := by rw [← rv.length]; exact hz
  have un : X.A.in1.in1.units + 65 < cLine := by
    show X.A.units + 1 + 1 + 65 < cLine
    omega
  refine sorted_of_sort hl.isList hZ ha1 ha2 fun E' => ?_
  rw [ht]
  have hD := copyHeap_at s.heap its
  generalize eD : s.heap.objs.size + 1 = D at hD ⊢
  have hDs : D < (copyHeap s.heap its).objs.size := Heap.lt_size hD
  obtain ⟨e1, hD1⟩ : ∃ e1, ((copyHeap s.heap its).update D (Obj.mapSeq fun _ => (#[] : Array Value))).get? D = some (seqObj "list" #[] e1) := ⟨_, get?_update_seq hD fun _ => #[]⟩
  unfold ksk_tree
  refine wpAny_bind (listItems_at (s := { s with heap := copyHeap s.heap its }) hD rfl ?_)
  refine wpAny_bind (listUpdate_at (s := { s with heap := copyHeap s.heap its }) hD rfl ?_ (by rw [List.size_toArray]; exact hZ) (Nat.zero_le _))
  refine wpAny_bind (seqEpoch_at (s := { s with heap := (copyHeap s.heap its).update D (Obj.mapSeq fun _ => (#[] : Array Value)) }) hD1 rfl ?_)
  refine wpAny_bind (wpAny_newTuple ?_ (show its.length ≤ _ from hZ))
  refine wpAny_bind (wpAny_newList ?_ (Nat.zero_le _))
  refine wpAny_holding ?_
  have oldC : ∀ c o, s.heap.get? c = some o → c ≠ D ∧ (copyHeap s.heap its).get? c = some o := fun c o e => ⟨fun z => by
    have h1 : c < s.heap.objs.size := Heap.lt_size e
    rw [z, ← eD] at h1
    exact absurd h1 (Nat.not_lt.mpr (Nat.le_succ _)), copyHeap_old e⟩
  have dge : s.heap.objs.size ≤ D := Nat.le_of_succ_le (Nat.le_of_eq eD)
  have szK : (((copyHeap s.heap its).update D (Obj.mapSeq fun _ => (#[] : Array Value))).push (seqObj "tuple" its.toArray 0)).objs.size = (copyHeap s.heap its).objs.size + 1 := by rw [size_push', Heap.size_update]
  have hK : ((((copyHeap s.heap its).update D (Obj.mapSeq fun _ => (#[] : Array Value))).push (seqObj "tuple" its.toArray 0)).push (seqObj "list" #[] 0)).get? (((copyHeap s.heap its).update D (Obj.mapSeq fun _ => (#[] : Array Value))).push (seqObj "tuple" its.toArray 0)).objs.size = some (seqObj "list" #[] 0) := Heap.get?_push_size _ rfl
  have hD2 : ((((copyHeap s.heap its).update D (Obj.mapSeq fun _ => (#[] : Array Value))).push (seqObj "tuple" its.toArray 0)).push (seqObj "list" #[] 0)).get? D = some (seqObj "list" #[] e1) := Heap.get?_push_of_some _ (Heap.get?_push_of_some _ hD1)
  have old2 : ∀ c o, s.heap.get? c = some o → ((((copyHeap s.heap its).update D (Obj.mapSeq fun _ => (#[] : Array Value))).push (seqObj "tuple" its.toArray 0)).push (seqObj "list" #[] 0)).get? c = some o := fun c o e => by
    obtain ⟨c1, c2⟩ := oldC c o e
    exact Heap.get?_push_of_some _ (Heap.get?_push_of_some _ ((Heap.get?_update_ne _ _ _ _ c1).trans c2))
  have hKge : s.heap.objs.size ≤ (((copyHeap s.heap its).update D (Obj.mapSeq fun _ => (#[] : Array Value))).push (seqObj "tuple" its.toArray 0)).objs.size := by rw [szK]; omega
  have hDK : D ≠ (((copyHeap s.heap its).update D (Obj.mapSeq fun _ => (#[] : Array Value))).push (seqObj "tuple" its.toArray 0)).objs.size := by rw [szK]; omega
  show wpAny _ _ (ksk_rest D fv b its.toArray e1 (.ref (((copyHeap s.heap its).update D (Obj.mapSeq fun _ => (#[] : Array Value))).push (seqObj "tuple" its.toArray 0)).objs.size)) _ _ { s with heap := ((((copyHeap s.heap its).update D (Obj.mapSeq fun _ => (#[] : Array Value))).push (seqObj "tuple" its.toArray 0)).push (seqObj "list" #[] 0)) }
  revert hK hD2 old2 hKge hDK
  generalize (((copyHeap s.heap its).update D (Obj.mapSeq fun _ => (#[] : Array Value))).push (seqObj "tuple" its.toArray 0)).objs.size = kS
  generalize ((((copyHeap s.heap its).update D (Obj.mapSeq fun _ => (#[] : Array Value))).push (seqObj "tuple" its.toArray 0)).push (seqObj "list" #[] 0)) = hh
  intro hK hD2 old2 hKge hDK
  have I2 : Inv X pins σ H { s with heap := hh } := I.kept (t' := s.toks) old2
  have fD : FpOk X pins H D := I.fpOk dge (I.hok.fresh dge)
  have fK : FpOk X pins H kS := I.fpOk hKge (I.hok.fresh hKge)
  have repin : ∀ {H' : Hp} {t : Shared} {kA : Array Value} {e : Nat}, Inv X pins σ H' t → t.heap.get? D = some (seqObj "list" #[] e1) → H' D = none → t.heap.get? kS = some (seqObj "list" kA e) → H' kS = none → Inv X (pins ++ [(D, seqObj "list" #[] e1), (kS, seqObj "list" kA e)]) σ H' t := by
    intro H' t kA e J d1 d2 k1 k2
    refine J.pins_of fun p hp => ?_
    rcases List.mem_append.mp hp with h | h
    · exact J.pin p (List.mem_append_right _ h)
    · rcases List.mem_cons.mp h with rfl | h
      · exact ⟨d1, d2, fD.2.1, fD.2.2.1, fun v => by simp [seqObj]⟩
      · rw [List.mem_singleton.mp h]
        exact ⟨k1, k2, fK.2.1, fK.2.2.1, fun v => by simp [seqObj]⟩
  unfold ksk_rest
  refine wpAny_bind (wpAny_rule ?_)
  first
    | rw [List.forIn_toArray]
    | (rw [← Array.forIn_toList]; simp only [List.toList_toArray])
    | rw [← Array.forIn_toList]
  refine wpAny_bind (ksk_fold (fun i t => ∃ H' kA e, Ex H H' ∧ Inv X (pins ++ [(D, seqObj "list" #[] e1), (kS, seqObj "list" kA e)]) σ H' t ∧ EachIs (fun u z => ∃ v, RelV v u ∧ DpX X.K H' v (kd z)) kA.toList (ys.take i)) its 0 { s with heap := hh } ⟨H, #[], 0, Ex.refl H, repin I2 hD2 fD.1 hK fK.1, by rw [List.take_zero]; exact .nil⟩ ?turn ?over)
  case turn =>
    rintro j x t hx ⟨H', kA, e, hex, J, hk⟩
    simp only [Nat.zero_add] at hk ⊢
    obtain ⟨z, hz1, rx⟩ := eachR_at hev hx
    have hj : j < its.length := (List.getElem?_eq_some_iff.mp hx).1
    have hkz : kA.size ≤ its.length := by
      have h1 := hk.length
      rw [Array.length_toList, List.length_take] at h1
      omega
    refine wpAny_bind (wpAny_attempt (wpAny_mono (call t _ H' z x (List.mem_of_getElem? hz1) hex J rx) (fun u t2 hu => ?_) fun _ _ hF => False.elim hF))
    obtain ⟨v, H2, J2, ru, hex2, hdp⟩ := hu
    have pD := J2.pin (D, seqObj "list" #[] e1) (List.mem_append_right _ (List.mem_append_right _ (.head _)))
    have pK := J2.pin (kS, seqObj "list" kA e) (List.mem_append_right _ (List.mem_append_right _ (.tail _ (.head _))))
    try dsimp only
    obtain ⟨c2, hc2⟩ : ∃ c2, (t2.heap.update kS (Obj.mapSeq (·.push u))).get? kS = some (seqObj "list" (kA.push u) c2) := ⟨_, get?_update_seq pK.1 (·.push _)⟩
    have keepK : ∀ b o, b ∉ [kS] → t2.heap.get? b = some o → (t2.heap.update kS (Obj.mapSeq (·.push u))).get? b = some o := fun b o hb ho => (Heap.get?_update_ne _ _ _ _ (fun z => hb (by rw [z]; exact .head _))).trans ho
    have hsz2 : (kA.push u).size ≤ sizeLine + 1 := by
      rw [Array.size_push]
      omega
    refine wpAny_bind (listUpdate_at pK.1 rfl ?_ (by omega) hsz2)
    refine wpAny_pure ⟨rfl, H2, kA.push u, c2, hex.trans hex2, ?_, ?_⟩
    · refine repin (Inv.turnedL (t' := t2.toks) J2.unpinned keepK (fun b hb => ?_)) ?_ pD.2.1 hc2 pK.2.1
      · rw [List.mem_singleton.mp hb]
        exact ⟨pK.2.1, fK.2⟩
      · exact keepK D _ (fun h => hDK (List.mem_singleton.mp h)) pD.1
    · have ek : ys.take (j + 1) = ys.take j ++ [z] := by rw [List.take_add_one, hz1]; rfl
      rw [ek, Array.toList_push]
      exact eachR_more ⟨v, ru, hdp⟩ (hk.mono fun u z ⟨v, r, d⟩ => ⟨v, r, d.mono hex2⟩)
  case over =>
    rintro t ⟨H', kA, e, hex, J, hk⟩
    have e3 : ys.take (0 + its.length) = ys := List.take_of_length_le (by omega)
    rw [e3] at hk
    have hsz : kA.size = its.length := by
      have h1 := hk.length
      rw [Array.length_toList] at h1
      omega
    have pD := J.pin (D, seqObj "list" #[] e1) (List.mem_append_right _ (List.mem_append_right _ (.head _)))
    have pK := J.pin (kS, seqObj "list" kA e) (List.mem_append_right _ (List.mem_append_right _ (.tail _ (.head _))))
    try dsimp only
    refine wpAny_bind (listItems_at pK.1 rfl ?_)
    have rd : EachIs (fun v d => ∃ as, Reads t.heap v d as) kA.toList (ys.map kd) := by
      have h1 : EachIs (fun v z => ∃ as, Reads t.heap v (kd z) as) kA.toList ys := hk.mono fun u z ⟨v, r, d⟩ => Dp.reads J (kd z) v u (d H' (Ex.refl _)) r
      exact each_map (R := fun v d => ∃ as, Reads t.heap v d as) kd h1
    have kb : KeepsBut D (less t.heap kS) t.heap := fun c o hc ho => by
      have hck : c ≠ kS := fun z => by rw [z, less_at pK.1] at ho; cases ho
      rw [less_ne hck] at ho
      exact ho
    refine keyH_end (κ := dataKind t.heap (ys.map kd)) (h₁ := less t.heap kS) kb (less_at pK.1) pK.1 pD.1 (Ne.symm hDK) (ko.sorts rd un) hsz hZ fun h4 tk c k4 n4 => ⟨rfl, ?_⟩
    have out1 := keyedOut_each (rev := b) kd ⟨t.heap, kA.toList, ko.1, rfl, rd⟩ hev
    have keep4 : ∀ c o, c ∉ [kS, D] → t.heap.get? c = some o → h4.get? c = some o := fun c o hc ho => by
      refine k4 c o (fun z => hc (by rw [z]; simp)) ?_
      rw [less_ne (fun z => hc (by rw [z]; simp))]
      exact ho
    have hlen4 : ((ordk b kd ys).map iv).length ≤ sizeLine := by
      unfold ordk
      rw [List.length_map, List.length_mergeSort]
      omega
    have J4 : Inv X pins σ (upd H' D (.lst ((ordk b kd ys).map iv))) { t with heap := h4, toks := tk } := by
      refine inv_track J.unpinned keep4 (fun c hc => ?_) (by simp) ⟨hlen4, _, c, eachR_vals out1, n4⟩
      rcases List.mem_cons.mp hc with rfl | hc
      · exact ⟨pK.2.1, fK.2⟩
      · rw [List.mem_singleton.mp hc]
        exact ⟨pD.2.1, fD.2⟩
    exact ⟨.ref D, _, J4, rfl, q H' D hex pD.2.1⟩
/-! ### lambdas -/
/-- the object at f is the lambda of these words -/
def FnL (f : Addr) (F : NF) (body : Expr) : HO := .ext fun h => ∃ (od : Option Addr) (sl : Array (Option Value)) (pm ctv : Value), h.get? f = some (⟨.type "function", od, .func (PySem.W.kla_fn F.name F.qual F.params body F.scope F.cl pm (.ref F.c) ctv), sl⟩ : Obj)
theorem fnL_ok {P : Program} {w : World} {H : Hp} {h : Heap} {f : Addr} {F : NF} {body : Expr} {pm ctv : Value} (e : h.get? f = some { cls := .type "function", data := .func (PySem.W.kla_fn F.name F.qual F.params body F.scope F.cl pm (.ref F.c) ctv) }) : ObjOk P w H h f (FnL f F body) :=
  ⟨⟨_, _, pm, ctv, e⟩, ⟨_, e⟩, fun h1 h2 ⟨od, sl, p, t, z⟩ st => ⟨od, sl, p, t, st _ z⟩⟩
theorem fnL_at {P : Program} {w : World} {H : Hp} {h : Heap} {f : Addr} {F : NF} {body : Expr} (hok : HOk P w H h) (e : H f = some (FnL f F body)) : ∃ (od : Option Addr) (sl : Array (Option Value)) (pm ctv : Value), h.get? f = some (⟨.type "function", od, .func (PySem.W.kla_fn F.name F.qual F.params body F.scope F.cl pm (.ref F.c) ctv), sl⟩ : Obj) := (hok f _ e).1
abbrev lamF (X : Cx) (params : Arguments) (scope : Scope) (c' : Addr) : NF := ⟨"<lambda>", X.env.qual ++ "<lambda>", params, [], scope, cloFrom X.env.cells scope.names [], c'⟩
/-- all but the object at P stays -/
def KeepP (P : Addr) (H H1 : Hp) : Prop := ∀ b o, b ≠ P → H b = some o → H1 b = some o
section
variable {X : Cx} {pins : List (Addr × Obj)} {σ : L2.St} {H : Hp} {s : Shared}
theorem lam_eval {c P : Addr} {params : Arguments} {body : Expr} {scope : Scope} {pos : Pos} {E : Value → Shared → Prop} {Q : Value → Shared → Prop} (I : Inv X pins σ H s) (TB : TabB X.base X.mg c P) (hcode : X.env.code = .ref c) (hT : TabS H P (X.env.qual ++ "<lambda>")) (hdef : defaultsOf params X.env = ([], []))
    (hfree : ∀ y ∈ scope.names, y.2 = .free → ∃ c, X.env.cells.lookup y.1 = some c)
    (k : ∀ (f c' : Addr) (H1 : Hp) (s1 : Shared), Inv X pins σ H1 s1 → KeepP P H H1 → TabS H1 P (X.env.qual ++ "<lambda>") → H f = none → H1 f = some (FnL f (lamF X params scope c') body) → H1 c' = some (CodeO c' (X.env.qual ++ "<lambda>")) → Q (.ref f) s1) :
    wpAny (model X.prog X.w) X.A (eval (.Lambda params body scope pos) X.env) Q E s := by
  obtain ⟨ps, hP, tr, am⟩ := hT
  have bP : s.heap.BuiltinsAt X.mg P := TB.bm.keeps I.bk
  have tb : s.heap.get? P = some { cls := .none, data := .fields ps } := I.hok P _ hP
  refine PySem.W.kla_eval hdef ?_
  cases hc : codeAmong pos ps.toList with
  | some cv =>
    obtain ⟨c', rfl, hco⟩ := am pos cv hc
    refine PySem.W.kla_makeFunctionHit (mg := X.mg) (c := c) (P := P) (ps := ps) (closure_ok hfree) I.ok.glob (I.mod.glob.keeps I.bk) hcode (TB.code.keeps I.bk) tb tr hc bP fun ctv g tk hx hsz => ?_
    have I1 : Inv X pins σ H { s with heap := g, toks := tk } := I.kept hx
    have nF : H g.objs.size = none := I1.hok.fresh (Nat.le_refl _)
    have I2 := I1.laid (t' := tk) (a := g.objs.size) (o := FnL g.objs.size (lamF X params scope c') body) (fun b u e => Heap.get?_push_of_some _ e) (Nat.le_refl _) (fnL_ok (pm := (X.mg "__name__").getD .none) (ctv := ctv) (Heap.get?_push_size _ rfl))
    have up : ∀ b o, H b = some o → upd H g.objs.size (FnL g.objs.size (lamF X params scope c') body) b = some o := fun b o e => (upd_ne (ne_of_none e nF)).trans e
    exact k g.objs.size c' _ _ I2 (fun b o _ e => up b o e) (TabS.ext ⟨ps, hP, tr, am⟩ up) nF upd_same (up _ _ hco)
  | none =>
    refine PySem.W.kla_makeFunction (mg := X.mg) (c := c) (P := P) (ps := ps) (closure_ok hfree) I.ok.glob (I.mod.glob.keeps I.bk) hcode (TB.code.keeps I.bk) tb tr hc TB.gP bP fun c' ctv g tk hx hge hlt hrec htb => ?_
    obtain ⟨c2, oc, vs, t, e2, hoc, hd, hv⟩ := hrec
    cases e2
    have nC : H c' = none := I.hok.fresh hge
    have I1 := inv_table (t' := tk) (q := X.env.qual ++ "<lambda>") (more := #[rawInt pos.line, rawInt pos.col, .ref c']) (h' := g) I hP (fun b o hb e => hx b o hb e) htb hge ⟨oc, vs, t, hoc, hd, hv⟩
    have nF := I1.hok.fresh (Nat.le_refl _)
    have I2 := I1.laid (t' := tk) (a := g.objs.size) (o := FnL g.objs.size (lamF X params scope c') body) (fun b u e => Heap.get?_push_of_some _ e) (Nat.le_refl _) (fnL_ok (pm := (X.mg "__name__").getD .none) (ctv := ctv) (Heap.get?_push_size _ rfl))
    have nH : H g.objs.size = none := I.hok.fresh (Nat.le_trans hge (Nat.le_of_lt hlt))
    have nP : P ≠ g.objs.size := ne_of_none hP nH
    have nPc : P ≠ c' := ne_of_none hP nC
    have up : KeepP P H (upd (upd (upd H P (.tbl (ps ++ #[rawInt pos.line, rawInt pos.col, .ref c']))) c' (CodeO c' (X.env.qual ++ "<lambda>"))) g.objs.size (FnL g.objs.size (lamF X params scope c') body)) := fun b o hb e => by
      rw [upd_ne (ne_of_none e nH), upd_ne (ne_of_none e nC), upd_ne hb]
      exact e
    have atc : upd (upd (upd H P (.tbl (ps ++ #[rawInt pos.line, rawInt pos.col, .ref c']))) c' (CodeO c' (X.env.qual ++ "<lambda>"))) g.objs.size (FnL g.objs.size (lamF X params scope c') body) c' = some (CodeO c' (X.env.qual ++ "<lambda>")) := by rw [upd_ne (Nat.ne_of_lt hlt), upd_same]
    have eL : (ps ++ #[rawInt pos.line, rawInt pos.col, .ref c']).toList = ps.toList ++ [rawInt pos.line, rawInt pos.col, .ref c'] := by simp
    refine k g.objs.size c' _ _ I2 up ⟨ps ++ #[rawInt pos.line, rawInt pos.col, .ref c'], by rw [upd_ne nP, upd_ne nPc, upd_same], by rw [eL]; exact PySem.TriplesOk_snoc _ _ _ _ tr, fun p' cv hcv => ?_⟩ nH upd_same atc
    rw [eL] at hcv
    rcases among_app _ tr hcv with z | z
    · obtain ⟨c0, x1, x2⟩ := am p' cv z
      refine ⟨c0, x1, up _ _ (fun q => ?_) x2⟩
      rw [q, hP] at x2
      exact codeO_ne (c := P) _ (Option.some.inj x2).symm
    · exact ⟨c', z, atc⟩
end
/-- a call of a lambda, by its body -/
theorem lam_call {P : Program} {w : World} {K : PySem.W.Frag} {mg : Str → Option Value} {base : Heap} {N ps fr : List Str} {F : NF} {f : Addr} {body : Expr} {k : Nat} {A : Around} {outer : List Env} {s : Shared} {H : Hp} {us : List Value} {vs : List V} {ws : List (Option V)} {tb : TE} {Q : VK}
    (S : NScope N ps fr F.scope) (hb : ∀ (pm ctv : Value) (us : List Value), us.length = ps.length → bindArgs (PySem.W.kla_fn F.name F.qual F.params body F.scope F.cl pm (.ref F.c) ctv) ⟨us, []⟩ = pure (ps.zip us)) (hr : Room (k + 1) A) (e0 : Env0 P w K mg base A outer s H) (hf : H f = some (FnL f F body)) (hc : H F.c = some (CodeO F.c F.qual))
    (C : CellsAt F.cl fr ws s.heap H) (r : Vals vs us) (hl : vs.length = ps.length) (hbody : Room k (A.deeper (envF F f s.heap.objs.size)) → PE (ncx CX0 P w K mg base N F f A outer s H E0) body tb) (hq : tb (startF N vs ws) H Q) :
    codeAny (model P w) A (.call (.ref f) ⟨us, []⟩) (CR CX0 outer P w H s Q E0) s := by
  have lim : s.heap.NoLimit := e0.mod.nolimit.keeps fun b o e => (e0.bs b o e).1
  obtain ⟨od, sl, pm, ctv, ho⟩ := fnL_at e0.hok hf
  refine PySem.W.kla_callFunE hr.depth ho rfl S.co S.gen rfl (codeO_at e0.hok hc) ?_
  rw [hb pm ctv us (by rw [← r.length]; exact hl)]
  refine wpAny_pure (wpAny_newFunctionEnv S.nocell (fun ⟨n, _⟩ hy => S.par n (List.of_mem_zip hy).1) (fun g hns hsb => ⟨lim.fresh _ hsb, ?_⟩) S.kind)
  show codeAny _ _ (.expr body (envF F f s.heap.objs.size)) _ _
  have kp : ∀ b o, s.heap.get? b = some o → g.get? b = some o := fun b o e => hsb.extBut b o (Nat.ne_of_lt (Heap.lt_size e)) (Heap.get?_push_of_some _ e)
  have J : Inv (ncx CX0 P w K mg base N F f A outer s H E0) [] (startF N vs ws) H { s with heap := g, toks := s.toks + (ps.zip us).length } := inv_startN S hr.hd e0 hl r C hns kp
  refine PySem.W.kla_codeExpr (wpAny_mono ((hbody (hr.deeper _)).run [] _ _ H Q J hq) (fun v s1 h1 => ?_) fun e s1 h1 => h1)
  obtain ⟨v1, H1, J1, rv, q⟩ := h1
  exact ⟨v1, H1, J1.os, J1.bare, J1.base, J1.hok, rv, q⟩
/-! ### sorted(e, key=lambda x: ..), nothing captured -/
def tLam1 (P : Addr) (q : Str) (mk : Addr → NF) (body : Expr) : TE := fun σ H Q => TabS H P q ∧ ∀ (f c' : Addr) (H1 : Hp), KeepP P H H1 → TabS H1 P q → H f = none → H1 f = some (FnL f (mk c') body) → H1 c' = some (CodeO c' q) → Q (.ref f) H1
def rSortL (K : PySem.W.Frag) (N : List Str) (mk : Addr → NF) (body : Expr) (q : Str) (tb : TE) : List V → List V → Hp → VK → Prop := fun vs zs H Q => ∃ (a f c' : Addr) (α : Type) (ys : List α) (iv : α → V) (kd : α → PyData), vs = [.ref a] ∧ zs = [.ref f] ∧ SqL K H a (ys.map iv) ∧ KeysOk kd ys ∧
  H f = some (FnL f (mk c') body) ∧ H c' = some (CodeO c' q) ∧ (∀ z ∈ ys, ∀ H', Ex H H' → tb (startF N [iv z] []) H' fun v H2 => Ex H' H2 ∧ DpX K H2 v (kd z)) ∧ ∀ H2 p, Ex H H2 → H2 p = none → Q (.ref p) (upd H2 p (.lst ((ordk false kd ys).map iv)))
section
variable {X : Cx} {k : Nat} {c P : Addr} {pn : Str} {params : Arguments} {body : Expr} {scope : Scope} {N : List Str} {tb : TE} {lpos : Pos}
theorem pe_lam (TB : TabB X.base X.mg c P) (hcode : X.env.code = .ref c) (hfree : ∀ y ∈ scope.names, y.2 = .free → ∃ c, X.env.cells.lookup y.1 = some c) (hdef : defaultsOf params X.env = ([], []) := by rfl) : PE X (.Lambda params body scope lpos) (tLam1 P (X.env.qual ++ "<lambda>") (lamF X params scope) body) :=
  ⟨fun pins s σ H Q I h => lam_eval I TB hcode h.1 hdef hfree fun f c' H1 s1 I1 kp t hf h1 h2 => ⟨.ref f, H1, I1, rfl, h.2 f c' H1 kp t hf h1 h2⟩⟩
theorem cr_sortL (hr : Room (k + 3) X.A) (S : NScope N [pn] [] scope) (hcl : cloFrom X.env.cells scope.names [] = [])
    (hb : ∀ (c' : Addr) (pm ctv : Value) (us : List Value), us.length = 1 → bindArgs (PySem.W.kla_fn "<lambda>" (X.env.qual ++ "<lambda>") params body scope (cloFrom X.env.cells scope.names []) pm (.ref c') ctv) ⟨us, []⟩ = pure ([pn].zip us))
    (hbody : ∀ (c' f : Addr) (A : Around) (outer : List Env) (s : Shared) (H : Hp), Room k (A.deeper (envF (lamF X params scope c') f s.heap.objs.size)) → PE (ncx CX0 X.prog X.w X.K X.mg X.base N (lamF X params scope c') f A outer s H E0) body tb) :
    CallRK X (.builtin "sorted") [Str.ofString "key"] (rSortL X.K N (lamF X params scope) body (X.env.qual ++ "<lambda>") tb) := by
  rintro pins s σ H vs zs us ws Q I r rz ⟨a, f, c', α, ys, iv, kd, rfl, rfl, hs, ko, hf, hc, hk, q⟩
  obtain rfl := Vals.ref1 r
  obtain ⟨w1, rfl, e1⟩ := vals1 rz
  obtain rfl : w1 = Value.ref f := e1
  have un := hr.un
  refine sorted_any (b := false) (by omega) I hs ko (fun t pins' H' z u hz hex J rx => ?_) (ksk_s1 _ _) (fun _ => ksk_l1 _ _) (fun x => ksk_t1 f x) q
  have hr2 : Room (k + 1) X.A.in1.in1 := (Room.in1 (show Room (k + 1 + 1 + 1) X.A from hr)).in1
  have C : CellsAt (lamF X params scope c').cl [] [] t.heap H' := by
    show CellsAt (cloFrom X.env.cells scope.names []) [] [] t.heap H'
    rw [hcl]
    exact ⟨rfl, (fun y c e => nomatch e), (fun x y c e => nomatch e), (fun i y e => nomatch e)⟩
  refine wpAny_call (codeAny_mono (lam_call (F := lamF X params scope c') (N := N) (ps := [pn]) (vs := [iv z]) (ws := []) S (hb c') hr2 J.env0.in1.in1 (hex f _ hf) (hex c' _ hc) C (.cons rx .nil) rfl (fun hr3 => hbody c' f _ _ _ _ hr3) (hk z hz H' hex)) fun r t' hq => ?_)
  cases r with
  | error e => exact hq.elim
  | ok fl =>
    cases fl with
    | ret u => exact J.after hq
    | next => exact hq.elim
    | brk => exact hq.elim
    | cont => exact hq.elim
theorem pe_sortL {p pos k1 : Pos} {e : Expr} {ta : TA} (hr : Room (k + 3) X.A) (hg : Gl X "sorted") (hm : X.mg "sorted" = none) (ha : PA X [e] ta) (TB : TabB X.base X.mg c P) (hcode : X.env.code = .ref c) (S : NScope N [pn] [] scope) (hcl : cloFrom X.env.cells scope.names [] = [])
    (hb : ∀ (c' : Addr) (pm ctv : Value) (us : List Value), us.length = 1 → bindArgs (PySem.W.kla_fn "<lambda>" (X.env.qual ++ "<lambda>") params body scope (cloFrom X.env.cells scope.names []) pm (.ref c') ctv) ⟨us, []⟩ = pure ([pn].zip us))
    (hbody : ∀ (c' f : Addr) (A : Around) (outer : List Env) (s : Shared) (H : Hp), Room k (A.deeper (envF (lamF X params scope c') f s.heap.objs.size)) → PE (ncx CX0 X.prog X.w X.K X.mg X.base N (lamF X params scope c') f A outer s H E0) body tb)
    (hdef : defaultsOf params X.env = ([], []) := by rfl)
    (hs : backTo pos (starEach [e] X.env) = (false, eval e X.env) :: backTo pos (starEach [] X.env) := by rfl) (hpl : (backTo pos (starEach [e] X.env)).any (·.1) = false := by rfl)
    (hall : (backToKw pos (keywordEach [⟨some "key", .Lambda params body scope lpos, k1⟩] X.env)).all (·.1.isSome) = true := by rfl) (hnone : (backToKw pos (keywordEach [⟨some "key", .Lambda params body scope lpos, k1⟩] X.env)).any (·.1.isNone) = false := by rfl) (hks : (backToKw pos (keywordEach [⟨some "key", .Lambda params body scope lpos, k1⟩] X.env)).filterMap (·.1) = [Str.ofString "key"] := by rfl) :
    PE X (.Call (.Name "sorted" p) [e] [⟨some "key", .Lambda params body scope lpos, k1⟩] pos) (tCKw (rSortL X.K N (lamF X params scope) body (X.env.qual ++ "<lambda>") tb) ta (tCons (tLam1 P (X.env.qual ++ "<lambda>") (lamF X params scope) body) tNil)) :=
  pe_callBK (cr_sortL hr S hcl hb hbody) hg hm (by rfl) ha (pk_cons (pe_lam TB hcode (fun y hy e => absurd e (fun z => by
    have h1 := S.free y hy z
    simp at h1)) hdef) pk_nil) (by decide) (by decide) hs hpl hall hnone hks
end
/-! ### what runs while a table of code objects may grow: the table stands outside of the view -/
def Tb (P : Addr) (q : Str) (G A : Hp) : Prop := G P = none ∧ TabS A P q
theorem Tb.step {P : Addr} {q : Str} {G A G' A' : Hp} (h : Tb P q G A) (s : Step G A G' A') : Tb P q G' A' := by
  obtain ⟨g, t⟩ := h
  have t0 := t
  obtain ⟨ps, hp, _⟩ := t
  exact ⟨s.f P (by rw [hp]; simp) g, t0.ext s.a⟩
def EfT (K : PySem.W.Frag) (P : Addr) (q : Str) (te : TE) (σ : L2.St) (G : Hp) (d : Dd) : Prop := ∀ G1 A, Ex G G1 → Ex G1 A → Tb P q G1 A → ∀ Q : VK, (∀ v G' A', Ex G1 G' → Ex G' A' → Tb P q G' A' → Is K G' d v → Q v A') → te σ A Q
def EfaT (K : PySem.W.Frag) (P : Addr) (q : Str) (ta : TA) (σ : L2.St) (G : Hp) (ds : List Dd) : Prop := ∀ G1 A, Ex G G1 → Ex G1 A → Tb P q G1 A → ∀ Q : List V → Hp → Prop, (∀ vs G' A', Ex G1 G' → Ex G' A' → Tb P q G' A' → IsAll K G' ds vs → Q vs A') → ta σ A Q
def EtT (P : Addr) (q : Str) (t : TT) (σ : L2.St) (G : Hp) (b : Bool) : Prop := ∀ G1 A, Ex G G1 → Ex G1 A → Tb P q G1 A → ∀ Q : Bool → Hp → Prop, (∀ G' A', Ex G1 G' → Ex G' A' → Tb P q G' A' → Q b A') → t σ A Q
def ItfT (K : PySem.W.Frag) (P : Addr) (q : Str) (wi : TI) (σ : L2.St) (G : Hp) (ds : List Dd) : Prop := ∀ G1 A, Ex G G1 → Ex G1 A → Tb P q G1 A → ∀ R, (∀ J G2 A2, Ex G1 G2 → Ex G2 A2 → Tb P q G2 A2 → Wk K J G2 ds → R J A2) → wi σ A R
/-- a def's promise -/
def spT (K : PySem.W.Frag) (P : Addr) (q : Str) {T : Type} (pre : T → Prop) (args : T → List Dd) (ret : T → Dd) : Sp := fun vs A Q _ => ∃ (a : T) (G : Hp), pre a ∧ Ex G A ∧ Tb P q G A ∧ IsAll K G (args a) vs ∧ ∀ v G' A', Ex G G' → Ex G' A' → Tb P q G' A' → Is K G' (ret a) v → Q v A'
section
variable {K : PySem.W.Frag} {P : Addr} {q : Str} {σ : L2.St} {G G0 A : Hp} {te ta tb tl : TE} {t u : TT} {tr : TA} {wi : TI} {g : TG} {d d' d1 d2 : Dd} {ds : List Dd} {D : Ends} {tu tw tz : TS} {b a : Bool} {T : Type} {pre : T → Prop} {args : T → List Dd} {ret : T → Dd} {E : XK}
theorem EfT.mono (e : Ex G0 G) (h : EfT K P q te σ G0 d) : EfT K P q te σ G d := fun G1 A e1 e2 tb Q k => h G1 A (e.trans e1) e2 tb Q k
theorem EfT.to (h : EfT K P q te σ G d) (e : d = d') : EfT K P q te σ G d' := e ▸ h
theorem EfT.as (h : EfT K P q te σ G d) (f : ∀ H v, Is K H d v → Is K H d' v) : EfT K P q te σ G d' := fun G1 A e1 e2 tb Q k => h G1 A e1 e2 tb Q fun v G' A' x1 x2 x3 z => k v G' A' x1 x2 x3 (f G' v z)
theorem EfT.of (h : Ef K te σ G d) : EfT K P q te σ G d := fun G1 A e1 e2 tb Q k => h G1 A e1 e2 Q fun v G' A' s z => k v G' A' s.g s.v (tb.step s) z
theorem efaT_nil : EfaT K P q tNil σ G [] := fun G1 A e1 e2 tb Q k => k [] G1 A (Ex.refl _) e2 tb .nil
theorem efaT_cons (h : EfT K P q ta σ G d) (hr : EfaT K P q tr σ G ds) : EfaT K P q (tCons ta tr) σ G (d :: ds) := fun G1 A e1 e2 tb Q k =>
  h G1 A e1 e2 tb _ fun v G2 A2 x1 x2 x3 z => hr G2 A2 (e1.trans x1) x2 x3 _ fun vs G3 A3 y1 y2 y3 z3 => k _ G3 A3 (x1.trans y1) y2 y3 (.cons (z.mono y1) z3)
theorem EfaT.of (h : Efa K tr σ G ds) : EfaT K P q tr σ G ds := fun G1 A e1 e2 tb Q k => h G1 A e1 e2 Q fun vs G' A' s z => k vs G' A' s.g s.v (tb.step s) z
theorem efT_op {r : R2} (ha : EfT K P q ta σ G d1) (hb : EfT K P q tb σ G d2) (hr : Rof K r d1 d2 d) : EfT K P q (tOp r ta tb) σ G d := fun G1 A e1 e2 t0 Q k =>
  ha G1 A e1 e2 t0 _ fun v1 G2 A2 x1 x2 x3 z => hb G2 A2 (e1.trans x1) x2 x3 _ fun v2 G3 A3 y1 y2 y3 z3 => hr v1 v2 G3 A3 y2 (z.mono y1) z3 Q fun v G4 A4 s z4 => k v G4 A4 ((x1.trans y1).trans s.g) s.v (y3.step s) z4
theorem efT_cb {rc : List V → Hp → VK → Prop} (h : EfaT K P q tr σ G ds) (hr : Rcf K rc ds d) : EfT K P q (tCB rc tr) σ G d := fun G1 A e1 e2 t0 Q k =>
  h G1 A e1 e2 t0 _ fun vs G2 A2 x1 x2 x3 z => hr vs G2 A2 x2 z Q fun v G3 A3 s z3 => k v G3 A3 (x1.trans s.g) s.v (x3.step s) z3
theorem efT_callF (a : T) (h : EfaT K P q tr σ G ds) (hd : ds = args a) (hp : pre a) : EfT K P q (tCall (spF K pre args ret) [] E tr) σ G (ret a) := fun G1 A e1 e2 t0 Q k =>
  h G1 A e1 e2 t0 _ fun vs G2 A2 x1 x2 x3 z => by
    rw [List.append_nil]
    exact ⟨a, hp, G2, x2, hd ▸ z, fun v G3 A3 s z3 => k v G3 A3 (x1.trans s.g) s.v (x3.step s) z3⟩
/-- a def that answers something flat -/
theorem efT_callR {ret : T → V} (a : T) (h : EfaT K P q tr σ G ds) (hd : ds = args a) (hp : pre a) : EfT K P q (tCall (spR K pre args fun x => .v (ret x)) [] E tr) σ G (.v (ret a)) := fun G1 A e1 e2 t0 Q k =>
  h G1 A e1 e2 t0 _ fun vs G2 A2 x1 x2 x3 z => by
    rw [List.append_nil]
    exact ⟨a, hp, (hd ▸ z).mono x2, fun v A3 e3 z3 => k v G2 A3 x1 (x2.trans e3) (x3.step (.on x2 e3)) z3⟩
theorem efT_call (a : T) (h : EfaT K P q tr σ G ds) (hd : ds = args a) (hp : pre a) : EfT K P q (tCall (spT K P q pre args ret) [] E tr) σ G (ret a) := fun G1 A e1 e2 t0 Q k =>
  h G1 A e1 e2 t0 _ fun vs G2 A2 x1 x2 x3 z => by
    rw [List.append_nil]
    exact ⟨a, G2, hp, x2, x3, hd ▸ z, fun v G3 A3 e3 e4 t3 z3 => k v G3 A3 (x1.trans e3) e4 t3 z3⟩
theorem efT_callW (a : T) (h : EfaT K P q tr σ G ds) (hd : ds.reverse = args a) (hp : pre a) : EfT K P q (tCallW (spT K P q pre args ret) tr) σ G (ret a) := fun G1 A e1 e2 t0 Q k =>
  h G1 A e1 e2 t0 _ fun vs G2 A2 x1 x2 x3 z => ⟨a, G2, hp, x2, x3, hd ▸ isAll_rev z, fun v G3 A3 e3 e4 t3 z3 => k v G3 A3 (x1.trans e3) e4 t3 z3⟩
theorem efT_andV (h1 : EfT K P q ta σ G (.b a)) (h2 : a = true → EfT K P q tb σ G (.b b)) : EfT K P q (tAndV ta tb) σ G (.b (a && b)) := fun G1 A e1 e2 t0 Q k =>
  h1 G1 A e1 e2 t0 _ fun v G2 A2 x1 x2 x3 z => ⟨a, z, by
    cases a with
    | true =>
      rw [if_pos rfl]
      exact h2 rfl G2 A2 (e1.trans x1) x2 x3 Q fun v G3 A3 y1 y2 y3 z3 => k v G3 A3 (x1.trans y1) y2 y3 z3
    | false =>
      rw [if_neg Bool.false_ne_true]
      exact k _ G2 A2 x1 x2 x3 rfl⟩
theorem etT_of (h : ∀ A, Ex G A → Et K t σ A b) : EtT P q t σ G b := fun G1 A e1 e2 t0 Q k => h A (e1.trans e2) A (Ex.refl A) _ fun A2 ea => k G1 A2 (Ex.refl _) (e2.trans ea) (t0.step (.on e2 ea))
theorem etT_b (h : EfT K P q te σ G (.b b)) : EtT P q (tB te) σ G b := fun G1 A e1 e2 t0 Q k => h G1 A e1 e2 t0 _ fun v G2 A2 x1 x2 x3 z => ⟨b, z, k G2 A2 x1 x2 x3⟩
theorem etT_t (h : EfT K P q te σ G (.b b)) : EtT P q (tTest te) σ G b := fun G1 A e1 e2 t0 Q k => h G1 A e1 e2 t0 _ fun v G2 A2 x1 x2 x3 z => ⟨b, z, k G2 A2 x1 x2 x3⟩
theorem etT_not (h : EtT P q t σ G b) : EtT P q (tNot t) σ G (!b) := fun G1 A e1 e2 t0 Q k => h G1 A e1 e2 t0 _ k
theorem s_whenT (h : EtT P q t σ G b) (hA : Ex G A) (t0 : Tb P q G A) (h1 : b = true → ∀ G1 A1, Ex G G1 → Ex G1 A1 → Tb P q G1 A1 → tu { D with nx := tz D } σ A1) (h2 : b = false → ∀ G1 A1, Ex G G1 → Ex G1 A1 → Tb P q G1 A1 → tz D σ A1) : tSeq (tIfS t tu tNext) tz D σ A :=
  h G A (Ex.refl G) hA t0 _ fun G1 A1 x1 x2 x3 => by
    cases b with
    | true => exact h1 rfl G1 A1 x1 x2 x3
    | false => exact h2 rfl G1 A1 x1 x2 x3
theorem s_whenT1 (h : EtT P q t σ G b) (hA : Ex G A) (t0 : Tb P q G A) (h1 : b = true → ∀ G1 A1, Ex G G1 → Ex G1 A1 → Tb P q G1 A1 → tu D σ A1) (h2 : b = false → ∀ G1 A1, Ex G G1 → Ex G1 A1 → Tb P q G1 A1 → D.nx σ A1) : tIfS t tu tNext D σ A :=
  h G A (Ex.refl G) hA t0 _ fun G1 A1 x1 x2 x3 => by
    cases b with
    | true => exact h1 rfl G1 A1 x1 x2 x3
    | false => exact h2 rfl G1 A1 x1 x2 x3
theorem s_setT {i : Nat} (h : EfT K P q te σ G d) (hA : Ex G A) (t0 : Tb P q G A) (k : ∀ v G' A', Ex G G' → Ex G' A' → Tb P q G' A' → Is K G' d v → tz D (σ.set i (some v)) A') : tSeq (tAsg te (gName i)) tz D σ A := h G A (Ex.refl G) hA t0 _ fun v G' A' x1 x2 x3 z => k v G' A' x1 x2 x3 z
theorem s_retT {d' : Dd} (h : EfT K P q te σ G d) (hA : Ex G A) (t0 : Tb P q G A) (hd : d = d') (k : ∀ v G' A', Ex G G' → Ex G' A' → Tb P q G' A' → Is K G' d' v → D.rt v A') : tRet te D σ A := h G A (Ex.refl G) hA t0 _ fun v G' A' x1 x2 x3 z => k v G' A' x1 x2 x3 (hd ▸ z)
theorem ifT_list (h : EfT K P q tl σ G (.L ds)) : ItfT K P q (iList K tl) σ G ds := fun G1 A e1 e2 t0 R r =>
  h G1 A e1 e2 t0 _ fun v G2 A2 x1 x2 x3 ⟨p, vs, ep, hp, hE⟩ => by
    subst ep
    refine ⟨p, rfl, ⟨vs, ex_l x2 hp⟩, r _ G2 A2 x1 x2 x3 fun i G' A' e3 e4 => ⟨fun d hd => ?_, fun hi => ⟨vs, ex_l (e3.trans e4) hp, by rw [← isE_len hE]; omega⟩⟩⟩
    obtain ⟨y, hy, z⟩ := isE_at hE hd
    refine ⟨⟨vs, y, ex_l (e3.trans e4) hp, hy⟩, fun v A'' hyl => ?_⟩
    obtain ⟨rfl, hall⟩ := hyl
    have ev := (hall vs (ex_l (e3.trans e4) hp)).symm.trans hy
    rw [Option.some.inj ev]
    exact ⟨G', .refl e4, z.mono e3⟩
/-- a comprehension over what a def of this kind answers -/
theorem efT_lc {α : Type} {its : List α} {inj : α → Dd} {vs : List Nat} (f : α → Bool) (gd : α → Dd) (h : ItfT K P q wi σ G (its.map inj)) (hz : its.length ≤ 50000)
    (hs : ∀ (i : Nat) x v G' A', Ex G G' → Ex G' A' → its[i]? = some x → Is K G' (inj x) v → ∃ σ2, (∀ Q : L2.St → Hp → Prop, Q σ2 A' → g v (wipe σ vs) A' Q) ∧ wipe σ2 vs = wipe σ vs ∧ Et K t σ2 A' (f x) ∧ (f x = true → Ef K te σ2 G' (gd x))) :
    EfT K P q (tLc wi g t te vs) σ G (.N ((its.filter f).map gd)) := fun G0 A0 e0 ea0 t0 Q k =>
  h G0 A0 e0 ea0 t0 _ fun J G1 A1 s1g s1v t1 hw => fun Dl hD => by
    have gD := ex_out s1v hD
    refine ⟨fun i m A' => m = its.length - i ∧ i ≤ its.length ∧ ∃ G', Step G1 A1 G' A' ∧ G' Dl = none ∧ ∃ us, A' Dl = some (.lst us) ∧ IsE K G' (((its.take i).filter f).map gd) us, ⟨_, rfl, Nat.zero_le _, G1, .on s1v (Ex.new hD), gD, [], upd_same, rfl⟩, ?_⟩
    rintro i m A' ⟨rfl, hi, G', st, hg, us, hu, hE⟩
    by_cases hlt : i < its.length
    · have hx : its[i]? = some its[i] := List.getElem?_eq_getElem hlt
      have hd' : (its.map inj)[i]? = some (inj its[i]) := by rw [List.getElem?_map, hx]; rfl
      obtain ⟨go, yl⟩ := (hw i G' A' st.g st.v).1 _ hd'
      refine .inr ⟨go, fun A3 => ∃ G3, Step G1 A1 G3 A3 ∧ G3 Dl = none ∧ ∃ us, A3 Dl = some (.lst us) ∧ IsE K G3 (((its.take (i + 1)).filter f).map gd) us, fun A3 p3 => ⟨its.length - (i + 1), by omega, rfl, hlt, p3⟩, fun v A'' y => ?_⟩
      obtain ⟨G2, s2, z⟩ := yl v A'' y
      have uN : A' Dl ≠ none := by rw [hu]; simp
      have g2 := s2.f Dl uN hg
      have u2 := s2.a Dl _ hu
      obtain ⟨σ2, hgt, hwp, htt, hte⟩ := hs i _ v G2 A'' ((e0.trans s1g).trans (st.g.trans s2.g)) s2.v hx z
      have hl : us.length ≤ i := by
        rw [← isE_len hE, List.length_map]
        refine Nat.le_trans (List.length_filter_le _ _) ?_
        rw [List.length_take]
        exact Nat.min_le_left _ _
      refine hgt _ ⟨hwp, htt A'' (Ex.refl _) _ fun A3 e3 => ?_⟩
      have hn : (its.take (i + 1)).filter f = (its.take i).filter f ++ if f its[i] = true then [its[i]] else [] := by
        rw [List.take_add_one, hx]
        simp only [Option.toList, List.filter_append]
        congr 1
        by_cases hf : f its[i] = true
        · simp [hf]
        · simp [hf]
      have s3 := (st.trans s2).trans (Step.on s2.v e3)
      have u3 := e3 Dl _ u2
      by_cases hf : f its[i] = true
      · rw [if_pos hf]
        refine hte hf G2 A3 (Ex.refl G2) s3.v _ fun w G4 A4 s4 zw => ⟨us, s4.a Dl _ u3, sz_lt (by omega), ?_⟩
        have g4 := s4.f Dl (by rw [u3]; simp) g2
        refine ⟨G4, (s3.trans s4).grow hD g4, g4, us ++ [w], upd_same, ?_⟩
        rw [hn, if_pos hf, List.map_append]
        exact isE_app (IsE.mono (s2.g.trans s4.g) hE) ⟨w, [], rfl, zw, rfl⟩
      · rw [if_neg hf]
        refine ⟨G2, s3, g2, us, u3, ?_⟩
        rw [hn, if_neg hf, List.append_nil]
        exact IsE.mono s2.g hE
    · have e : i = its.length := by omega
      subst e
      have y := st.seal hD hg hu
      refine .inl ⟨(hw _ G' A' st.g st.v).2 (by rw [List.length_map]), k _ (upd G' Dl (.lst us)) A' (s1g.trans y.g) y.v (t1.step y) ⟨Dl, us, rfl, upd_same, ?_⟩⟩
      rw [List.take_length] at hE
      exact IsE.mono (Ex.new hg) hE
end
section
variable {K : PySem.W.Frag} {P : Addr} {q : Str} {σ : L2.St} {G A : Hp} {tl : TE}
theorem isE_zip {β : Type} {dd : β → Dd} {H : Hp} : ∀ {ys : List β} {us : List V}, IsE K H (ys.map dd) us → ∀ z ∈ us.zip ys, Is K H (dd z.2) z.1
  | [], us, _, z, hz => by simp at hz
  | y :: r, us, h, z, hz => by
    obtain ⟨x, t, rfl, h1, h2⟩ := h
    rw [List.zip_cons_cons] at hz
    rcases List.mem_cons.mp hz with rfl | hz
    · exact h1
    · exact isE_zip h2 z hz
theorem isE_unzip {β : Type} {dd : β → Dd} {H : Hp} : ∀ {L : List (V × β)}, (∀ z ∈ L, Is K H (dd z.2) z.1) → IsE K H ((L.map (·.2)).map dd) (L.map (·.1))
  | [], _ => rfl
  | z :: r, h => ⟨z.1, r.map (·.1), rfl, h z List.mem_cons_self, isE_unzip fun y hy => h y (List.mem_cons_of_mem _ hy)⟩
theorem ordk_snd {β : Type} {kd : β → PyData} {L : List (V × β)} : (ordk false (fun z : V × β => kd z.2) L).map (·.2) = ordk false kd (L.map (·.2)) := List.map_mergeSort fun _ _ _ _ => rfl
theorem efT_sortL {β : Type} {ys : List β} {dd : β → Dd} {kd : β → PyData} {N : List Str} {mk : Addr → NF} {body : Expr} {tb : TE} (hl : Ef K tl σ G (.N (ys.map dd))) (ko : KeysOk kd ys)
    (hb : ∀ y ∈ ys, ∀ (v : V) (G2 H : Hp), Ex G G2 → Ex G2 H → Is K G2 (dd y) v → tb (startF N [v] []) H fun v' H2 => Ex H H2 ∧ DpX K H2 v' (kd y)) :
    EfT K P q (tCKw (rSortL K N mk body q tb) (tCons tl tNil) (tCons (tLam1 P q mk body) tNil)) σ G (.N ((ordk false kd ys).map dd)) := fun G1 A e1 e2 t0 Q k =>
  hl G1 A e1 e2 _ fun v G2 A2 s2 ⟨p, us, ev, hp, hE⟩ => by
    subst ev
    have t2 := t0.step s2
    have el : us.length = ys.length := by rw [← isE_len hE, List.length_map]
    have m1 : (us.zip ys).map (·.1) = us := List.map_fst_zip (by omega)
    have m2 : (us.zip ys).map (·.2) = ys := List.map_snd_zip (by omega)
    refine ⟨t2.2, fun f c' H1 kp tT hf h1 h2 => ?_⟩
    have eGH : Ex G2 H1 := fun b o e => kp b o (fun z => by rw [z, t2.1] at e; cases e) (s2.v b o e)
    refine ⟨p, f, c', V × β, us.zip ys, (·.1), fun z => kd z.2, rfl, rfl, ?_, ⟨?_, ?_, ?_⟩, h1, h2, ?_, ?_⟩
    · rw [m1]
      exact sq_of (eGH _ _ hp)
    · have e : (us.zip ys).map (fun z => kd z.2) = ys.map kd := (List.map_map (f := fun z : V × β => z.2) (g := kd)).symm.trans (congrArg (List.map kd) m2)
      rw [e]
      exact ko.1
    · have e : (us.zip ys).map (fun z => kd z.2) = ys.map kd := (List.map_map (f := fun z : V × β => z.2) (g := kd)).symm.trans (congrArg (List.map kd) m2)
      rw [e]
      rcases ko.2.1 with h | ⟨h, h'⟩
      · exact .inl h
      · exact .inr ⟨by rw [List.length_zip]; omega, fun z hz => h' z.2 (List.of_mem_zip hz).2⟩
    · exact fun z hz => ko.2.2 z.2 (List.of_mem_zip hz).2
    · exact fun z hz H' ex => hb z.2 (List.of_mem_zip hz).2 z.1 G2 H' (e1.trans s2.g) (eGH.trans ex) (isE_zip hE z hz)
    · intro H2 p' ex hn
      have gH2 : Ex G2 H2 := eGH.trans ex
      have hg : G2 p' = none := ex_out gH2 hn
      have tH2 : TabS H2 P q := tT.ext ex
      have nP : P ≠ p' := fun z => by
        obtain ⟨ps, e, _⟩ := tH2
        rw [z, hn] at e
        cases e
      refine k (.ref p') (upd G2 p' (.lst ((ordk false (fun z : V × β => kd z.2) (us.zip ys)).map (·.1)))) _ (s2.g.trans (Ex.new hg)) (fun b o e => ?_) ⟨by rw [upd_ne nP]; exact t2.1, tH2.ext (Ex.new hn)⟩ ⟨p', _, rfl, upd_same, ?_⟩
      · by_cases hb : b = p'
        · subst hb
          rw [upd_same] at e ⊢
          exact e
        · rw [upd_ne hb] at e ⊢
          exact gH2 b o e
      · have e := isE_unzip (K := K) (dd := dd) (H := upd G2 p' (.lst ((ordk false (fun z : V × β => kd z.2) (us.zip ys)).map (·.1)))) (L := ordk false (fun z : V × β => kd z.2) (us.zip ys)) fun z hz => (isE_zip hE z (List.mem_mergeSort.mp hz)).mono (Ex.new hg)
        rw [ordk_snd, m2] at e
        exact e
end
/-! ### a def's promise -/
/-- the code object of the def of this name -/
def CodeAt (K : PySem.W.Frag) (mg : Str → Option Value) (x : Str) (c : Addr) : Prop := ∀ (f : Addr) (o : Obj) (fd : FuncData), mg x = some (.ref f) → K.lookup f = some o → o.data = .func fd → fd.code = .ref c
section
variable {P : Program} {w : World} {K : PySem.W.Frag} {mg : Str → Option Value} {base : Heap} {x : Str} {st : Stmt} {N ps : List Str} {k : Nat} {T : Type} {pre : T → Prop} {args : T → List Dd} {ret : T → Dd} {Pt : Addr} {q : Str}
theorem Fun.okT {f : Addr} {fd : FuncData} (F : Fun K x x st f fd) (Sc : FnScope N ps (defScope st)) (hl : ∀ a, (args a).length = ps.length)
    (hbody : ∀ (cdv : Value) (Ar : Around) (outer : List Env) (s : Shared) (G A : Hp) (a : T) (vs : List V) (Q : VK) (E : XK), Room k (Ar.deeper (envOfC x (defScope st) s.heap.objs.size f cdv)) → pre a → Ex G A → Tb Pt q G A → IsAll K G (args a) vs →
      (∀ v G' A', Ex G G' → Ex G' A' → Tb Pt q G' A' → Is K G' (ret a) v → Q v A') →
      ∃ t, PSs (cxOf CX0 P w K mg base N x (defScope st) f cdv Ar outer s A E).nox (defBody st) t ∧ t { nx := fun _ A' => Q .non A', rt := Q } (start N vs) A) :
    FnOk P w K mg base CX0 (k + 1) f fd ps (spT K Pt q pre args ret) := by
  refine F.ok Sc (fun vs H Q E hsp => ?_) (fun cdv Ar outer s A vs Q E hr hsp => ?_)
  · obtain ⟨a, G, _, _, _, hv, _⟩ := hsp
    rw [← hv.len, hl]
  · obtain ⟨a, G, hp, hA, t0, hv, hk⟩ := hsp
    exact hbody cdv Ar outer s G A a vs Q E hr hp hA t0 hv hk
/-- the same; its code object known -/
theorem At.hasTC {c : Addr} (h : At K mg x st ps) (hc : CodeAt K mg x c) (Sc : FnScope N ps (defScope st)) (hl : ∀ a, (args a).length = ps.length)
    (hbody : ∀ (f : Addr) (Ar : Around) (outer : List Env) (s : Shared) (G A : Hp) (a : T) (vs : List V) (Q : VK) (E : XK), Room k (Ar.deeper (envOfC x (defScope st) s.heap.objs.size f (.ref c))) → pre a → Ex G A → Tb Pt q G A → IsAll K G (args a) vs →
      (∀ v G' A', Ex G G' → Ex G' A' → Tb Pt q G' A' → Is K G' (ret a) v → Q v A') →
      ∃ t, PSs (cxOf CX0 P w K mg base N x (defScope st) f (.ref c) Ar outer s A E).nox (defBody st) t ∧ t { nx := fun _ A' => Q .non A', rt := Q } (start N vs) A) :
    Has P w K mg base (k + 1) x ps (spT K Pt q pre args ret) := by
  obtain ⟨f, fd, hm, F, b0, b1, b2⟩ := h.ex
  have kp := F.kp
  obtain ⟨oc, od, kV, doc, pm, an, cdv, ct, osl, rfl, lk, hcd⟩ := F.ex
  have ec : cdv = .ref c := hc f _ _ hm lk rfl
  subst ec
  refine ⟨f, _, hm, kp, fn_of (CX := CX0) lk hcd Sc (fun vs H Q E hsp => ?_) (fun Ar outer s A vs Q E hr hsp => ?_), b0, b1, b2⟩
  · obtain ⟨a, G, _, _, _, hv, _⟩ := hsp
    rw [← hv.len, hl]
  · obtain ⟨a, G, hp, hA, t0, hv, hk⟩ := hsp
    obtain ⟨t, h1, h2⟩ := hbody f Ar outer s G A a vs Q E hr hp hA t0 hv hk
    exact ⟨t, h1.nox, h2⟩
end
end Mi

set_option maxHeartbeats 4000000
namespace Mi
open PySem PySem.Spec PyProof.Rows L2 Evl PySem.W LamX NdefX
/-! ### sorted by a key function, of a tuple too -/
theorem sorted_core {X : Cx} {b : Bool} {kw : List (Str × Value)} {pins : List (Addr × Obj)} {s : Shared} {σ : L2.St} {H : Hp} {D : Nat} {hc : Heap} {its : List Value} {n0 : Nat} {α : Type} {ys : List α} {iv : α → V} {kd : α → PyData} {fv : Value} {Q : VK} {E' : Value → Shared → Prop}
    (hu : X.A.units + 67 < cLine) (I : Inv X pins σ H s) (hev : EachIs (fun u z => RelV (iv z) u) its ys) (hZ : its.length ≤ sizeLine) (ko : KeysOk kd ys)
    (call : ∀ (t : Shared) (pins' : List (Addr × Obj)) (H' : Hp) (z : α) (u : Value), z ∈ ys → Ex H H' → Inv X pins' σ H' t → RelV (iv z) u → wpAny (model X.prog X.w) X.A.in1.in1 (call fv [u]) (EP X pins' σ fun v H2 => Ex H' H2 ∧ DpX X.K H2 v (kd z)) (fun _ _ => False) t)
    (ht : ∀ x, Builtin.«list.sort» ⟨[.ref x], kw⟩ = ksk_tree x fv b)
    (q : ∀ H2 p, Ex H H2 → H2 p = none → Q (.ref p) (upd H2 p (.lst ((ordk b kd ys).map iv))))
    (hD : hc.get? D = some (seqObj "list" its.toArray n0)) (dge : s.heap.objs.size ≤ D) (oldC : ∀ c o, s.heap.get? c = some o → c ≠ D ∧ hc.get? c = some o) :
    wpAny (model X.prog X.w) X.A.in1.in1 (Builtin.«list.sort» ⟨[.ref D], kw⟩) (fun f s' => f = .done (.ret .none) ∧ EP X pins σ Q (.ref D) s') E' { s with heap := hc } := by
  have hle : its.length = ys.length := hev.length
  have un : X.A.in1.in1.units + 65 < cLine := by
    show X.A.units + 1 + 1 + 65 < cLine
    omega
  rw [ht]
  have hDs : D < (hc).objs.size := Heap.lt_size hD
  obtain ⟨e1, hD1⟩ : ∃ e1, ((hc).update D (Obj.mapSeq fun _ => (#[] : Array Value))).get? D = some (seqObj "list" #[] e1) := ⟨_, get?_update_seq hD fun _ => #[]⟩
  unfold ksk_tree
  refine wpAny_bind (listItems_at (s := { s with heap := hc }) hD rfl ?_)
  refine wpAny_bind (listUpdate_at (s := { s with heap := hc }) hD rfl ?_ (by rw [List.size_toArray]; exact hZ) (Nat.zero_le _))
  refine wpAny_bind (seqEpoch_at (s := { s with heap := (hc).update D (Obj.mapSeq fun _ => (#[] : Array Value)) }) hD1 rfl ?_)
  refine wpAny_bind (wpAny_newTuple ?_ (show its.length ≤ _ from hZ))
  refine wpAny_bind (wpAny_newList ?_ (Nat.zero_le _))
  refine wpAny_holding ?_
  have szK : (((hc).update D (Obj.mapSeq fun _ => (#[] : Array Value))).push (seqObj "tuple" its.toArray 0)).objs.size = (hc).objs.size + 1 := by rw [size_push', Heap.size_update]
  have hK : ((((hc).update D (Obj.mapSeq fun _ => (#[] : Array Value))).push (seqObj "tuple" its.toArray 0)).push (seqObj "list" #[] 0)).get? (((hc).update D (Obj.mapSeq fun _ => (#[] : Array Value))).push (seqObj "tuple" its.toArray 0)).objs.size = some (seqObj "list" #[] 0) := Heap.get?_push_size _ rfl
  have hD2 : ((((hc).update D (Obj.mapSeq fun _ => (#[] : Array Value))).push (seqObj "tuple" its.toArray 0)).push (seqObj "list" #[] 0)).get? D = some (seqObj "list" #[] e1) := Heap.get?_push_of_some _ (Heap.get?_push_of_some _ hD1)
  have old2 : ∀ c o, s.heap.get? c = some o → ((((hc).update D (Obj.mapSeq fun _ => (#[] : Array Value))).push (seqObj "tuple" its.toArray 0)).push (seqObj "list" #[] 0)).get? c = some o := fun c o e => by
    obtain ⟨c1, c2⟩ := oldC c o e
    exact Heap.get?_push_of_some _ (Heap.get?_push_of_some _ ((Heap.get?_update_ne _ _ _ _ c1).trans c2))
  have hKge : s.heap.objs.size ≤ (((hc).update D (Obj.mapSeq fun _ => (#[] : Array Value))).push (seqObj "tuple" its.toArray 0)).objs.size := by rw [szK]; omega
  have hDK : D ≠ (((hc).update D (Obj.mapSeq fun _ => (#[] : Array Value))).push (seqObj "tuple" its.toArray 0)).objs.size := by rw [szK]; omega
  show wpAny _ _ (ksk_rest D fv b its.toArray e1 (.ref (((hc).update D (Obj.mapSeq fun _ => (#[] : Array Value))).push (seqObj "tuple" its.toArray 0)).objs.size)) _ _ { s with heap := ((((hc).update D (Obj.mapSeq fun _ => (#[] : Array Value))).push (seqObj "tuple" its.toArray 0)).push (seqObj "list" #[] 0)) }
  revert hK hD2 old2 hKge hDK
  generalize (((hc).update D (Obj.mapSeq fun _ => (#[] : Array Value))).push (seqObj "tuple" its.toArray 0)).objs.size = kS
  generalize ((((hc).update D (Obj.mapSeq fun _ => (#[] : Array Value))).push (seqObj "tuple" its.toArray 0)).push (seqObj "list" #[] 0)) = hh
  intro hK hD2 old2 hKge hDK
  have I2 : Inv X pins σ H { s with heap := hh } := I.kept (t' := s.toks) old2
  have fD : FpOk X pins H D := I.fpOk dge (I.hok.fresh dge)
  have fK : FpOk X pins H kS := I.fpOk hKge (I.hok.fresh hKge)
  have repin : ∀ {H' : Hp} {t : Shared} {kA : Array Value} {e : Nat}, Inv X pins σ H' t → t.heap.get? D = some (seqObj "list" #[] e1) → H' D = none → t.heap.get? kS = some (seqObj "list" kA e) → H' kS = none → Inv X (pins ++ [(D, seqObj "list" #[] e1), (kS, seqObj "list" kA e)]) σ H' t := by
    intro H' t kA e J d1 d2 k1 k2
    refine J.pins_of fun p hp => ?_
    rcases List.mem_append.mp hp with h | h
    · exact J.pin p (List.mem_append_right _ h)
    · rcases List.mem_cons.mp h with rfl | h
      · exact ⟨d1, d2, fD.2.1, fD.2.2.1, fun v => by simp [seqObj]⟩
      · rw [List.mem_singleton.mp h]
        exact ⟨k1, k2, fK.2.1, fK.2.2.1, fun v => by simp [seqObj]⟩
  unfold ksk_rest
  refine wpAny_bind (wpAny_rule ?_)
  first
    | rw [List.forIn_toArray]
    | (rw [← Array.forIn_toList]; simp only [List.toList_toArray])
    | rw [← Array.forIn_toList]
  refine wpAny_bind (ksk_fold (fun i t => ∃ H' kA e, Ex H H' ∧ Inv X (pins ++ [(D, seqObj "list" #[] e1), (kS, seqObj "list" kA e)]) σ H' t ∧ EachIs (fun u z => ∃ v, RelV v u ∧ DpX X.K H' v (kd z)) kA.toList (ys.take i)) its 0 { s with heap := hh } ⟨H, #[], 0, Ex.refl H, repin I2 hD2 fD.1 hK fK.1, by rw [List.take_zero]; exact .nil⟩ ?turn ?over)
  case turn =>
    rintro j x t hx ⟨H', kA, e, hex, J, hk⟩
    simp only [Nat.zero_add] at hk ⊢
    obtain ⟨z, hz1, rx⟩ := eachR_at hev hx
    have hj : j < its.length := (List.getElem?_eq_some_iff.mp hx).1
    have hkz : kA.size ≤ its.length := by
      have h1 := hk.length
      rw [Array.length_toList, List.length_take] at h1
      omega
    refine wpAny_bind (wpAny_attempt (wpAny_mono (call t _ H' z x (List.mem_of_getElem? hz1) hex J rx) (fun u t2 hu => ?_) fun _ _ hF => False.elim hF))
    obtain ⟨v, H2, J2, ru, hex2, hdp⟩ := hu
    have pD := J2.pin (D, seqObj "list" #[] e1) (List.mem_append_right _ (List.mem_append_right _ (.head _)))
    have pK := J2.pin (kS, seqObj "list" kA e) (List.mem_append_right _ (List.mem_append_right _ (.tail _ (.head _))))
    try dsimp only
    obtain ⟨c2, hc2⟩ : ∃ c2, (t2.heap.update kS (Obj.mapSeq (·.push u))).get? kS = some (seqObj "list" (kA.push u) c2) := ⟨_, get?_update_seq pK.1 (·.push _)⟩
    have keepK : ∀ b o, b ∉ [kS] → t2.heap.get? b = some o → (t2.heap.update kS (Obj.mapSeq (·.push u))).get? b = some o := fun b o hb ho => (Heap.get?_update_ne _ _ _ _ (fun z => hb (by rw [z]; exact .head _))).trans ho
    have hsz2 : (kA.push u).size ≤ sizeLine + 1 := by
      rw [Array.size_push]
      omega
    refine wpAny_bind (listUpdate_at pK.1 rfl ?_ (by omega) hsz2)
    refine wpAny_pure ⟨rfl, H2, kA.push u, c2, hex.trans hex2, ?_, ?_⟩
    · refine repin (Inv.turnedL (t' := t2.toks) J2.unpinned keepK (fun b hb => ?_)) ?_ pD.2.1 hc2 pK.2.1
      · rw [List.mem_singleton.mp hb]
        exact ⟨pK.2.1, fK.2⟩
      · exact keepK D _ (fun h => hDK (List.mem_singleton.mp h)) pD.1
    · have ek : ys.take (j + 1) = ys.take j ++ [z] := by rw [List.take_add_one, hz1]; rfl
      rw [ek, Array.toList_push]
      exact eachR_more ⟨v, ru, hdp⟩ (hk.mono fun u z ⟨v, r, d⟩ => ⟨v, r, d.mono hex2⟩)
  case over =>
    rintro t ⟨H', kA, e, hex, J, hk⟩
    have e3 : ys.take (0 + its.length) = ys := List.take_of_length_le (by omega)
    rw [e3] at hk
    have hsz : kA.size = its.length := by
      have h1 := hk.length
      rw [Array.length_toList] at h1
      omega
    have pD := J.pin (D, seqObj "list" #[] e1) (List.mem_append_right _ (List.mem_append_right _ (.head _)))
    have pK := J.pin (kS, seqObj "list" kA e) (List.mem_append_right _ (List.mem_append_right _ (.tail _ (.head _))))
    try dsimp only
    refine wpAny_bind (listItems_at pK.1 rfl ?_)
    have rd : EachIs (fun v d => ∃ as, Reads t.heap v d as) kA.toList (ys.map kd) := by
      have h1 : EachIs (fun v z => ∃ as, Reads t.heap v (kd z) as) kA.toList ys := hk.mono fun u z ⟨v, r, d⟩ => Dp.reads J (kd z) v u (d H' (Ex.refl _)) r
      exact each_map (R := fun v d => ∃ as, Reads t.heap v d as) kd h1
    have kb : KeepsBut D (less t.heap kS) t.heap := fun c o hc ho => by
      have hck : c ≠ kS := fun z => by rw [z, less_at pK.1] at ho; cases ho
      rw [less_ne hck] at ho
      exact ho
    refine keyH_end (κ := dataKind t.heap (ys.map kd)) (h₁ := less t.heap kS) kb (less_at pK.1) pK.1 pD.1 (Ne.symm hDK) (ko.sorts rd un) hsz hZ fun h4 tk c k4 n4 => ⟨rfl, ?_⟩
    have out1 := keyedOut_each (rev := b) kd ⟨t.heap, kA.toList, ko.1, rfl, rd⟩ hev
    have keep4 : ∀ c o, c ∉ [kS, D] → t.heap.get? c = some o → h4.get? c = some o := fun c o hc ho => by
      refine k4 c o (fun z => hc (by rw [z]; simp)) ?_
      rw [less_ne (fun z => hc (by rw [z]; simp))]
      exact ho
    have hlen4 : ((ordk b kd ys).map iv).length ≤ sizeLine := by
      unfold ordk
      rw [List.length_map, List.length_mergeSort]
      omega
    have J4 : Inv X pins σ (upd H' D (.lst ((ordk b kd ys).map iv))) { t with heap := h4, toks := tk } := by
      refine inv_track J.unpinned keep4 (fun c hc => ?_) (by simp) ⟨hlen4, _, c, eachR_vals out1, n4⟩
      rcases List.mem_cons.mp hc with rfl | hc
      · exact ⟨pK.2.1, fK.2⟩
      · rw [List.mem_singleton.mp hc]
        exact ⟨pD.2.1, fD.2⟩
    exact ⟨.ref D, _, J4, rfl, q H' D hex pD.2.1⟩
theorem sorted_anyT {X : Cx} {b : Bool} {kw : List (Str × Value)} {pins : List (Addr × Obj)} {s : Shared} {σ : L2.St} {H : Hp} {a : Addr} {α : Type} {ys : List α} {iv : α → V} {kd : α → PyData} {fv : Value} {Q : VK}
    (hu : X.A.units + 67 < cLine) (I : Inv X pins σ H s) (hs : SqT X.K H a (ys.map iv)) (ko : KeysOk kd ys)
    (call : ∀ (t : Shared) (pins' : List (Addr × Obj)) (H' : Hp) (z : α) (u : Value), z ∈ ys → Ex H H' → Inv X pins' σ H' t → RelV (iv z) u → wpAny (model X.prog X.w) X.A.in1.in1 (call fv [u]) (EP X pins' σ fun v H2 => Ex H' H2 ∧ DpX X.K H2 v (kd z)) (fun _ _ => False) t)
    (ha1 : argsOk "sorted" ⟨[.ref a], kw⟩) (ha2 : ∀ x, argsOk "list.sort" ⟨[.ref x], kw⟩) (ht : ∀ x, Builtin.«list.sort» ⟨[.ref x], kw⟩ = ksk_tree x fv b)
    (q : ∀ H2 p, Ex H H2 → H2 p = none → Q (.ref p) (upd H2 p (.lst ((ordk b kd ys).map iv)))) :
    wpAny (model X.prog X.w) X.A (PySem.call (.builtin "sorted") [.ref a] kw) (EP X pins σ Q) X.xe s := by
  obtain ⟨its, rv, ⟨o, ho, hcl, n, hd⟩, hz⟩ := I.tuple hs
  have hev := eachR_of rv
  have hZ : its.length ≤ sizeLine := by rw [← rv.length]; exact hz
  refine call_function_entry_kw kind_sorted plain_sorted entry_sorted ha1 ?_
  unfold Builtin.«sorted»
  refine wpAny_bind (m := checkCount "sorted" 1 1 _) (wpAny_pure (wpAny_bind (wpAny_collect_seq (n := n) a (.inr rfl) ho hcl hd (fun h1 k1 => ?_) (by rw [List.size_toArray]; exact hZ))))
  have I1 : Inv X pins σ H { s with heap := h1 } := I.kept (t' := s.toks) k1
  rw [List.toList_toArray]
  refine wpAny_bind (wpAny_newList ?_ hZ)
  show wpAny _ _ _ _ _ { s with heap := h1.push (seqObj "list" its.toArray 0) }
  have hD : (h1.push (seqObj "list" its.toArray 0)).get? h1.objs.size = some (seqObj "list" its.toArray 0) := Heap.get?_push_size _ rfl
  have body := sorted_core (E' := X.xe) (hc := h1.push (seqObj "list" its.toArray 0)) (D := h1.objs.size) (n0 := 0) hu I1 hev hZ ko call ht q hD (Nat.le_refl _) (fun c o e => ⟨Nat.ne_of_lt (Heap.lt_size e), Heap.get?_push_of_some _ e⟩)
  refine wpAny_bind (wpAny_holding (wpAny_call_entry_kw slot_list_sort ⟨_, hD, rfl⟩ entry_list_sort (wpAny_mono body (fun f s' hf => ?_) fun _ _ e => e) (ha2 _)))
  obtain ⟨rfl, hq⟩ := hf
  exact ⟨_, rfl, wpAny_pure ⟨_, rfl, hq⟩⟩
end Mi

set_option maxHeartbeats 4000000
namespace Mi
open PySem PySem.Spec PyProof.Rows L2 Evl PySem.W LamX NdefX
/-! ### sorted(e, key=lambda x: ..), with names captured -/
def tCKwC (r : L2.St → List V → List V → Hp → VK → Prop) (t tk : TA) : TE := fun σ H Q => t σ H fun vs H1 => tk σ H1 fun zs H2 => r σ vs zs H2 Q
def rSortLC (K : PySem.W.Frag) (N : List Str) (mk : Addr → NF) (body : Expr) (q : Str) (tb : TE) (js : List Nat) : L2.St → List V → List V → Hp → VK → Prop := fun σ vs zs H Q => ∃ (a f c' : Addr) (α : Type) (ys : List α) (iv : α → V) (kd : α → PyData), vs = [.ref a] ∧ zs = [.ref f] ∧ (SqL K H a (ys.map iv) ∨ SqT K H a (ys.map iv)) ∧ KeysOk kd ys ∧
  H f = some (FnL f (mk c') body) ∧ H c' = some (CodeO c' q) ∧ (∀ z ∈ ys, ∀ H', Ex H H' → tb (startF N [iv z] (js.map (slotAt σ))) H' fun v H2 => Ex H' H2 ∧ DpX K H2 v (kd z)) ∧ ∀ H2 p, Ex H H2 → H2 p = none → Q (.ref p) (upd H2 p (.lst ((ordk false kd ys).map iv)))
section
variable {X : Cx} {k : Nat} {c P : Addr} {pn : Str} {params : Arguments} {body : Expr} {scope : Scope} {N fr : List Str} {js : List Nat} {tb : TE} {lpos : Pos}
theorem cr_sortLC (hr : Room (k + 3) X.A) (S : NScope N [pn] fr scope) (cp : X.Ok → Caps X (cloFrom X.env.cells scope.names []) fr js)
    (hb : ∀ (c' : Addr) (pm ctv : Value) (us : List Value), us.length = 1 → bindArgs (PySem.W.kla_fn "<lambda>" (X.env.qual ++ "<lambda>") params body scope (cloFrom X.env.cells scope.names []) pm (.ref c') ctv) ⟨us, []⟩ = pure ([pn].zip us))
    (hbody : ∀ (c' f : Addr) (A : Around) (outer : List Env) (s : Shared) (H : Hp), Room k (A.deeper (envF (lamF X params scope c') f s.heap.objs.size)) → PE (ncx CX0 X.prog X.w X.K X.mg X.base N (lamF X params scope c') f A outer s H E0) body tb)
    {pins : List (Addr × Obj)} {s : Shared} {σ : L2.St} {H : Hp} {vs zs : List V} {us ws : List Value} {Q : VK} (I : Inv X pins σ H s) (r : Vals vs us) (rz : Vals zs ws) (h : rSortLC X.K N (lamF X params scope) body (X.env.qual ++ "<lambda>") tb js σ vs zs H Q) :
    wpAny (model X.prog X.w) X.A (call (.builtin "sorted") us ([Str.ofString "key"].zip ws)) (EP X pins σ Q) X.xe s := by
  obtain ⟨a, f, c', α, ys, iv, kd, rfl, rfl, hs, ko, hf, hc, hk, q⟩ := h
  obtain rfl := Vals.ref1 r
  obtain ⟨w1, rfl, e1⟩ := vals1 rz
  obtain rfl : w1 = Value.ref f := e1
  have un := hr.un
  have go : ∀ (t : Shared) (pins' : List (Addr × Obj)) (H' : Hp) (z : α) (u : Value), z ∈ ys → Ex H H' → Inv X pins' σ H' t → RelV (iv z) u → wpAny (model X.prog X.w) X.A.in1.in1 (call (.ref f) [u]) (EP X pins' σ fun v H2 => Ex H' H2 ∧ DpX X.K H2 v (kd z)) (fun _ _ => False) t := fun t pins' H' z u hz hex J rx => by
   have hr2 : Room (k + 1) X.A.in1.in1 := (Room.in1 (show Room (k + 1 + 1 + 1) X.A from hr)).in1
   have C : CellsAt (lamF X params scope c').cl fr (js.map (slotAt σ)) t.heap H' := cells_of J (cp J.ok)
   refine wpAny_call (codeAny_mono (lam_call (F := lamF X params scope c') (N := N) (ps := [pn]) (vs := [iv z]) (ws := js.map (slotAt σ)) S (hb c') hr2 J.env0.in1.in1 (hex f _ hf) (hex c' _ hc) C (.cons rx .nil) rfl (fun hr3 => hbody c' f _ _ _ _ hr3) (hk z hz H' hex)) fun r t' hq => ?_)
   cases r with
   | error e => exact hq.elim
   | ok fl =>
     cases fl with
     | ret u => exact J.after hq
     | next => exact hq.elim
     | brk => exact hq.elim
     | cont => exact hq.elim
  rcases hs with hs | hs
  · exact sorted_any (b := false) (by omega) I hs ko go (ksk_s1 _ _) (fun _ => ksk_l1 _ _) (fun x => ksk_t1 f x) q
  · exact sorted_anyT (b := false) (by omega) I hs ko go (ksk_s1 _ _) (fun _ => ksk_l1 _ _) (fun x => ksk_t1 f x) q
theorem pe_sortLC {p pos k1 : Pos} {e : Expr} {ta : TA} (hr : Room (k + 3) X.A) (hg : Gl X "sorted") (hm : X.mg "sorted" = none) (ha : PA X [e] ta) (TB : TabB X.base X.mg c P) (hcode : X.env.code = .ref c) (S : NScope N [pn] fr scope)
    (hfree : ∀ y ∈ scope.names, y.2 = .free → X.env.scope.names.lookup y.1 = some .cell ∨ X.env.scope.names.lookup y.1 = some .free) (hfr : ∀ y ∈ fr, (y, NameKind.free) ∈ scope.names) (hjs : js.map (fun j => X.N[j]?) = fr.map some)
    (hb : ∀ (c' : Addr) (pm ctv : Value) (us : List Value), us.length = 1 → bindArgs (PySem.W.kla_fn "<lambda>" (X.env.qual ++ "<lambda>") params body scope (cloFrom X.env.cells scope.names []) pm (.ref c') ctv) ⟨us, []⟩ = pure ([pn].zip us))
    (hbody : ∀ (c' f : Addr) (A : Around) (outer : List Env) (s : Shared) (H : Hp), Room k (A.deeper (envF (lamF X params scope c') f s.heap.objs.size)) → PE (ncx CX0 X.prog X.w X.K X.mg X.base N (lamF X params scope c') f A outer s H E0) body tb)
    (hdef : defaultsOf params X.env = ([], []) := by rfl)
    (hs : backTo pos (starEach [e] X.env) = (false, eval e X.env) :: backTo pos (starEach [] X.env) := by rfl) (hpl : (backTo pos (starEach [e] X.env)).any (·.1) = false := by rfl)
    (hall : (backToKw pos (keywordEach [⟨some "key", .Lambda params body scope lpos, k1⟩] X.env)).all (·.1.isSome) = true := by rfl) (hnone : (backToKw pos (keywordEach [⟨some "key", .Lambda params body scope lpos, k1⟩] X.env)).any (·.1.isNone) = false := by rfl) (hks : (backToKw pos (keywordEach [⟨some "key", .Lambda params body scope lpos, k1⟩] X.env)).filterMap (·.1) = [Str.ofString "key"] := by rfl) :
    PE X (.Call (.Name "sorted" p) [e] [⟨some "key", .Lambda params body scope lpos, k1⟩] pos) (tCKwC (rSortLC X.K N (lamF X params scope) body (X.env.qual ++ "<lambda>") tb js) ta (tCons (tLam1 P (X.env.qual ++ "<lambda>") (lamF X params scope) body) tNil)) := by
  refine ⟨fun pins s σ H Q I h => ?_⟩
  have ok := I.ok
  have hk : PK X [⟨some "key", .Lambda params body scope lpos, k1⟩] (tCons (tLam1 P (X.env.qual ++ "<lambda>") (lamF X params scope) body) tNil) := pk_cons (pe_lam TB hcode (fun y hy e => (hfree y hy e).elim (fun z => ok.has _ (.inl z)) fun z => ok.has _ (.inr z)) hdef) pk_nil
  refine wpAny_Call_Name_kw (ld_blt I hg hm (by rfl) ?_ (by decide) (by decide))
  refine PyProof.Rows.callWith_kw (thn (ha.run pos pins s σ H _ I h) fun us s1 ⟨vs, H1, I1, r1, q1⟩ => thn (hk.run pos pins s1 σ H1 _ I1 q1) fun ws s2 ⟨zs, H2, I2, r2, q2⟩ => ?_) hs hpl hall hnone
  rw [hks]
  exact cr_sortLC hr S (fun ok => Caps.made ok hfree hfr hjs) hb hbody I2 r1 r2 q2
end
section
variable {K : PySem.W.Frag} {P : Addr} {q : Str} {σ : L2.St} {G A : Hp} {tl : TE}
theorem efT_sortLC {β : Type} {ys : List β} {dd : β → Dd} {kd : β → PyData} {N : List Str} {js : List Nat} {mk : Addr → NF} {body : Expr} {tb : TE} {d0 : Dd} (hl : Ef K tl σ G d0) (hsq : ∀ Hx v, Is K Hx d0 v → ∃ p us, v = .ref p ∧ (SqL K Hx p us ∨ SqT K Hx p us) ∧ IsE K Hx (ys.map dd) us) (ko : KeysOk kd ys)
    (hb : ∀ y ∈ ys, ∀ (v : V) (G2 H : Hp), Ex G G2 → Ex G2 H → Is K G2 (dd y) v → tb (startF N [v] (js.map (slotAt σ))) H fun v' H2 => Ex H H2 ∧ DpX K H2 v' (kd y)) :
    EfT K P q (tCKwC (rSortLC K N mk body q tb js) (tCons tl tNil) (tCons (tLam1 P q mk body) tNil)) σ G (.N ((ordk false kd ys).map dd)) := fun G1 A e1 e2 t0 Q k =>
  hl G1 A e1 e2 _ fun v G2 A2 s2 hz0 => by
    obtain ⟨p, us, ev, hp, hE⟩ := hsq G2 v hz0
    subst ev
    have t2 := t0.step s2
    have el : us.length = ys.length := by rw [← isE_len hE, List.length_map]
    have m1 : (us.zip ys).map (·.1) = us := List.map_fst_zip (by omega)
    have m2 : (us.zip ys).map (·.2) = ys := List.map_snd_zip (by omega)
    refine ⟨t2.2, fun f c' H1 kp tT hf h1 h2 => ?_⟩
    have eGH : Ex G2 H1 := fun b o e => kp b o (fun z => by rw [z, t2.1] at e; cases e) (s2.v b o e)
    refine ⟨p, f, c', V × β, us.zip ys, (·.1), fun z => kd z.2, rfl, rfl, ?_, ⟨?_, ?_, ?_⟩, h1, h2, ?_, ?_⟩
    · rw [m1]
      exact hp.elim (fun z => .inl (ex_l eGH z)) fun z => .inr (ex_t eGH z)
    · have e : (us.zip ys).map (fun z => kd z.2) = ys.map kd := (List.map_map (f := fun z : V × β => z.2) (g := kd)).symm.trans (congrArg (List.map kd) m2)
      rw [e]
      exact ko.1
    · have e : (us.zip ys).map (fun z => kd z.2) = ys.map kd := (List.map_map (f := fun z : V × β => z.2) (g := kd)).symm.trans (congrArg (List.map kd) m2)
      rw [e]
      rcases ko.2.1 with h | ⟨h, h'⟩
      · exact .inl h
      · exact .inr ⟨by rw [List.length_zip]; omega, fun z hz => h' z.2 (List.of_mem_zip hz).2⟩
    · exact fun z hz => ko.2.2 z.2 (List.of_mem_zip hz).2
    · exact fun z hz H' ex => hb z.2 (List.of_mem_zip hz).2 z.1 G2 H' (e1.trans s2.g) (eGH.trans ex) (isE_zip hE z hz)
    · intro H2 p' ex hn
      have gH2 : Ex G2 H2 := eGH.trans ex
      have hg : G2 p' = none := ex_out gH2 hn
      have tH2 : TabS H2 P q := tT.ext ex
      have nP : P ≠ p' := fun z => by
        obtain ⟨ps, e, _⟩ := tH2
        rw [z, hn] at e
        cases e
      refine k (.ref p') (upd G2 p' (.lst ((ordk false (fun z : V × β => kd z.2) (us.zip ys)).map (·.1)))) _ (s2.g.trans (Ex.new hg)) (fun b o e => ?_) ⟨by rw [upd_ne nP]; exact t2.1, tH2.ext (Ex.new hn)⟩ ⟨p', _, rfl, upd_same, ?_⟩
      · by_cases hb : b = p'
        · subst hb
          rw [upd_same] at e ⊢
          exact e
        · rw [upd_ne hb] at e ⊢
          exact gH2 b o e
      · have e := isE_unzip (K := K) (dd := dd) (H := upd G2 p' (.lst ((ordk false (fun z : V × β => kd z.2) (us.zip ys)).map (·.1)))) (L := ordk false (fun z : V × β => kd z.2) (us.zip ys)) fun z hz => (isE_zip hE z (List.mem_mergeSort.mp hz)).mono (Ex.new hg)
        rw [ordk_snd, m2] at e
        exact e
end
end Mi

set_option maxHeartbeats 4000000
namespace Mi
open PySem PySem.Spec PyProof.Rows L2 Evl
/-! ### dict(zip(names, values)) -/
section
variable {prog : Program} {w : World} {A : Around} {E : Value → Shared → Prop} {s : Shared} {z ti own i1 i2 : Addr} {p1 p2 : List Addr} {n1 n2 i : Nat} {R1 R2 : Nat → Value → Prop} {T1 T2 : Nat → Heap → Prop} {a1 a2 q : Value} {f : Bool}
theorem zq_pynext {Q : Option Value → Shared → Prop} (S : ZipSep2 z ti own i1 i2 p1 p2) (D1 : Draws prog w A.in1 i1 p1 n1 R1 T1) (D2 : Draws prog w A.in1 i2 p2 n2 R2 T2)
    (hz : ZQ s.heap z ti own q f) (hq : OutQ q) (hI : IsTupOf2 s.heap ti (.ref i1) (.ref i2)) (hO : IsTupOf2 s.heap own a1 a2) (t1 : T1 i s.heap) (t2 : T2 i s.heap) (l1 : i < n1) (l2 : i < n2)
    (k : ∀ x y g tk q2 f2, R1 i x → R2 i y → ZQ g z ti own q2 f2 → OutQ q2 → (∃ b1 b2, IsTupOf2 g own b1 b2) → T1 (i + 1) g → T2 (i + 1) g → IsTupOf2 g s.heap.objs.size x y → g.objs.size = s.heap.objs.size + 1 →
      (∀ c o, c ≠ z → c ≠ own → c ≠ i1 → c ≠ i2 → s.heap.get? c = some o → g.get? c = some o) → Q (some (.ref s.heap.objs.size)) { s with heap := g, toks := tk }) :
    wpAny (model prog w) A (pyNext (.ref z)) Q E s := by
  have ty : s.TypeIs (.ref z) "zip" := ⟨_, hz, rfl⟩
  unfold pyNext
  exact wpAny_bind (wpAny_attempt (wpAny_callSpecial?_slot (name := Str.ofString "__next__") ty PySem.F.slot_zip_next
    (wpAny_call_entry PySem.F.slot_zip_next ty PySem.F.entry_zip_next
      (zq_item S D1 D2 hz hq hI hO t1 t2 l1 l2 fun x y g tk q2 f2 u1 u2 u3 u4 u5 u6 u7 u8 u9 u10 => wpAny_pure (k x y g tk q2 f2 u1 u2 u3 u4 u5 u6 u7 u8 u9 u10)) (PySem.F.args_zip_next_1 _))))
theorem zq_pystop {Q : Option Value → Shared → Prop} (S : ZipSep2 z ti own i1 i2 p1 p2) (D1 : Draws prog w A.in1 i1 p1 n1 R1 T1) (D2 : Draws prog w A.in1 i2 p2 n2 R2 T2)
    (hz : ZQ s.heap z ti own q f) (hq : OutQ q) (hI : IsTupOf2 s.heap ti (.ref i1) (.ref i2)) (hO : IsTupOf2 s.heap own a1 a2) (t1 : T1 i s.heap) (t2 : T2 i s.heap) (l1 : i ≤ n1) (l2 : i ≤ n2) (hl : i = n1 ∨ i = n2)
    (k : ∀ g tk, (∀ c o, c ≠ z → c ≠ own → c ≠ i1 → c ≠ i2 → s.heap.get? c = some o → g.get? c = some o) → Q none { s with heap := g, toks := tk }) :
    wpAny (model prog w) A (pyNext (.ref z)) Q E s := by
  have ty : s.TypeIs (.ref z) "zip" := ⟨_, hz, rfl⟩
  unfold pyNext
  refine wpAny_bind (wpAny_attempt (wpAny_callSpecial?_slot (name := Str.ofString "__next__") ty PySem.F.slot_zip_next
    (wpAny_call_entry PySem.F.slot_zip_next ty PySem.F.entry_zip_next (zq_end S D1 D2 hz hq hI hO t1 t2 l1 l2 hl fun g tk e kp he => ?_) (PySem.F.args_zip_next_1 _))))
  obtain ⟨o, ho, hc⟩ := he
  refine wpAny_bind (wpAny_isInstance (T := "StopIteration") (b := true) ⟨o, ho, hc⟩ isSubtype_stop ?_)
  exact wpAny_pure (k _ _ kp)
end
theorem pairArg_zip {prog : Program} {w : World} {z ti own i1 i2 : Addr} {p1 p2 : List Addr} {n1 n2 : Nat} {R1 R2 : Nat → Value → Prop} {T1 T2 : Nat → Heap → Prop} (S : ZipSep2 z ti own i1 i2 p1 p2)
    (D1 : ∀ A : Around, A.handled = none → Draws prog w A i1 p1 n1 R1 T1) (D2 : ∀ A : Around, A.handled = none → Draws prog w A i2 p2 n2 R2 T2) (L1 : ∀ h, T1 0 h → ∀ b ∈ p1, ∃ o, h.get? b = some o) (L2' : ∀ h, T2 0 h → ∀ b ∈ p2, ∃ o, h.get? b = some o) :
    PairArg prog w "zip" z (z :: ti :: own :: (p1 ++ p2)) [z, own, i1, i2] (min n1 n2) (fun i k v => R1 i k ∧ R2 i v)
      (fun h => IsZip h z ti own .none ∧ IsTupOf2 h ti (.ref i1) (.ref i2) ∧ (∃ a b, IsTupOf2 h own a b) ∧ T1 0 h ∧ T2 0 h) where
  type := fun s ok => ⟨_, ok.1, rfl⟩
  notDict := by decide
  keep := fun h h' ok hk => by
    obtain ⟨hz, hI, ⟨a, b, hO⟩, h1, h2⟩ := ok
    exact ⟨hk _ _ hz, hk _ _ hI, ⟨a, b, hk _ _ hO⟩, (D1 { } rfl).frame _ _ _ h1 fun b _ o e => hk b o e, (D2 { } rfl).frame _ _ _ h2 fun b _ o e => hk b o e⟩
  there := fun h ok b hb => by
    obtain ⟨hz, hI, ⟨a, c, hO⟩, h1, h2⟩ := ok
    simp only [List.mem_cons, List.mem_append] at hb
    rcases hb with rfl | rfl | rfl | hb | hb
    · exact ⟨_, hz⟩
    · exact ⟨_, hI⟩
    · exact ⟨_, hO⟩
    · exact L1 h h1 b hb
    · exact L2' h h2 b hb
  sub := fun b hb => by
    have e : b = z ∨ b = own ∨ b = i1 ∨ b = i2 := by simpa using hb
    rcases e with rfl | rfl | rfl | rfl
    · exact List.mem_cons_self ..
    · exact List.mem_cons_of_mem _ (List.mem_cons_of_mem _ (List.mem_cons_self ..))
    · exact List.mem_cons_of_mem _ (List.mem_cons_of_mem _ (List.mem_cons_of_mem _ (List.mem_append_left _ S.mem1)))
    · exact List.mem_cons_of_mem _ (List.mem_cons_of_mem _ (List.mem_cons_of_mem _ (List.mem_append_right _ S.mem2)))
  noKeys := fun A s Q E hA ok h => PySem.getAttrOr_miss_zip ok.1 rfl rfl rfl PySem.zip_no_keys (by decide +kernel) hA h
  iter := fun A s d Q E hA ok hd hdf h => by
    obtain ⟨hz, hI, ⟨a, b, hO⟩, h1, h2⟩ := ok
    have nd : ∀ {c : Addr}, c ∈ z :: ti :: own :: (p1 ++ p2) → c ≠ d := fun hc e => hdf (e ▸ hc)
    have nz : z ≠ d := nd (List.mem_cons_self ..)
    have nt : ti ≠ d := nd (List.mem_cons_of_mem _ (List.mem_cons_self ..))
    have no : own ≠ d := nd (List.mem_cons_of_mem _ (List.mem_cons_of_mem _ (List.mem_cons_self ..)))
    have n1 : ∀ c ∈ p1, c ≠ d := fun c hc => nd (List.mem_cons_of_mem _ (List.mem_cons_of_mem _ (List.mem_cons_of_mem _ (List.mem_append_left _ hc))))
    have n2 : ∀ c ∈ p2, c ≠ d := fun c hc => nd (List.mem_cons_of_mem _ (List.mem_cons_of_mem _ (List.mem_cons_of_mem _ (List.mem_append_right _ hc))))
    refine wpAny_pyIter_zip hz (h z [z, own, i1, i2] (fun i h => IsTupOf2 h ti (.ref i1) (.ref i2) ∧ T1 i h ∧ T2 i h ∧ (∃ a b, IsTupOf2 h own a b) ∧ ∃ q f, ZQ h z ti own q f ∧ OutQ q) s.heap s.toks ?_
      ⟨hI, h1, h2, ⟨a, b, hO⟩, _, _, hz, .inl rfl⟩ (fun _ _ e => e) fun b hb => .inl hb)
    exact {
      off := fun hm => by
        have e : d = z ∨ d = own ∨ d = i1 ∨ d = i2 := by simpa using hm
        rcases e with e | e | e | e
        · exact nz e.symm
        · exact no e.symm
        · exact n1 _ S.mem1 e.symm
        · exact n2 _ S.mem2 e.symm
      frame := fun i g1 g2 st hk => by
        obtain ⟨hI, h1, h2, ⟨a, b, hO⟩, q, f, hz, hq⟩ := st
        exact ⟨hk _ _ nt hI, (D1 { } rfl).frame _ _ _ h1 fun b hb o e => hk b o (n1 b hb) e, (D2 { } rfl).frame _ _ _ h2 fun b hb o e => hk b o (n2 b hb) e, ⟨a, b, hk _ _ no hO⟩, q, f, hk _ _ nz hz, hq⟩
      item := fun i s1 Q1 E1 hi st hds hQ => by
        obtain ⟨hI, h1, h2, ⟨a, b, hO⟩, q, f, hz, hq⟩ := st
        refine zq_pynext S (D1 _ hA) (D2 _ hA) hz hq hI hO h1 h2 (by omega) (by omega) fun x y g tk q2 f2 u1 u2 u3 u4 u5 u6 u7 u8 u9 u10 => ?_
        exact hQ _ x y g tk ⟨u1, u2⟩ (.inl ⟨_, u8, rfl, _, rfl⟩) ⟨u10 _ _ S.TIz S.TITO S.TIi1 S.TIi2 hI, u6, u7, u5, q2, f2, u3, u4⟩ fun c o hc e => u10 c o (fun x => hc (by simp [x])) (fun x => hc (by simp [x])) (fun x => hc (by simp [x])) (fun x => hc (by simp [x])) e
      done := fun s1 Q1 E1 st hQ => by
        obtain ⟨hI, h1, h2, ⟨a, b, hO⟩, q, f, hz, hq⟩ := st
        exact zq_pystop S (D1 _ hA) (D2 _ hA) hz hq hI hO h1 h2 (by omega) (by omega) (by omega) fun g tk kp => hQ g tk fun c o hc e => kp c o (fun x => hc (by simp [x])) (fun x => hc (by simp [x])) (fun x => hc (by simp [x])) (fun x => hc (by simp [x])) e }
end Mi
namespace Mi
open PySem PySem.Spec PyProof.Rows L2 Evl
section
variable {X : Cx} {pins : List (Addr × Obj)} {s : Shared} {σ : L2.St} {H : Hp}
/-- an iterator over a list, or over a tuple, of ours -/
def SqE (K : PySem.W.Frag) (H : Hp) (a : Addr) (xs : List V) : Prop := SqL K H a xs ∨ SqT K H a xs
structure Its (prog : Program) (w : World) (v : Value) (o : Obj) (l : Addr) (us : List Value) (T : Addr → Nat → Heap → Prop) : Prop where
  draws : ∀ (A : Around) (it : Addr), A.handled = none → l ≠ it → Draws prog w A it [it, l] us.length (fun i x => us[i]? = some x) (T it)
  begins : ∃ Hh : Heap → Prop, Begins v o Hh ∧ (∀ h h' it, Hh h → (∀ b o', h.get? b = some o' → h'.get? b = some o') → h'.get? it = some o → T it 0 h')
  there : ∀ it h, T it 0 h → ∀ b ∈ [it, l], ∃ o, h.get? b = some o
theorem its_list {prog : Program} {w : World} {l : Addr} {us : List Value} : Its prog w (.ref l) { cls := .type "list_iterator", data := .fields #[.ref l, .int 0 0] } l us (fun it i h => h.IsListIter it l i ∧ h.IsList l us.toArray) where
  draws := fun A it hh hne => by
    have := Draws.list (prog := prog) (w := w) hh it l hne us.toArray
    simpa using this
  begins := ⟨fun h => h.IsList l us.toArray, begins_list l us.toArray, fun h h' it hl hk hi => ⟨⟨_, hi, rfl, rfl⟩, hl.at fun o e => hk l o e⟩⟩
  there := fun it h st b hb => by
    obtain ⟨⟨o1, e1, _⟩, ⟨o2, e2, _⟩⟩ := st
    simp only [List.mem_cons, List.not_mem_nil, or_false] at hb
    rcases hb with rfl | rfl
    · exact ⟨_, e1⟩
    · exact ⟨_, e2⟩
theorem its_tup {prog : Program} {w : World} {l : Addr} {us : List Value} : Its prog w (.ref l) { cls := .type "tuple_iterator", data := .fields #[.ref l, .int 0 0] } l us (fun it i h => h.IsTupleIter it l i ∧ h.IsTuple l us.toArray) where
  draws := fun A it hh hne => by
    have := Draws.tuple (prog := prog) (w := w) hh it l hne us.toArray
    simpa using this
  begins := ⟨fun h => h.IsTuple l us.toArray, begins_tuple l us.toArray, fun h h' it hl hk hi => ⟨⟨_, hi, rfl, rfl⟩, hl.at fun o e => hk l o e⟩⟩
  there := fun it h st b hb => by
    obtain ⟨⟨o1, e1, _⟩, ⟨o2, e2, _⟩⟩ := st
    simp only [List.mem_cons, List.not_mem_nil, or_false] at hb
    rcases hb with rfl | rfl
    · exact ⟨_, e1⟩
    · exact ⟨_, e2⟩
theorem sqE_its (I : Inv X pins σ H s) {a : Addr} {xs : List V} (h : SqE X.K H a xs) : ∃ (us : List Value) (o : Obj) (T : Addr → Nat → Heap → Prop), Vals xs us ∧ xs.length ≤ sizeLine ∧ a < s.heap.objs.size ∧ (∀ it, T it 0 s.heap → True) ∧ ∃ (Hh : Heap → Prop), Hh s.heap ∧ Begins (.ref a) o Hh ∧ (∀ h h' it, Hh h → (∀ b o', h.get? b = some o' → h'.get? b = some o') → h'.get? it = some o → T it 0 h') ∧ (∀ (A : Around) (it : Addr), A.handled = none → a ≠ it → Draws X.prog X.w A it [it, a] us.length (fun i x => us[i]? = some x) (T it)) ∧ (∀ it h, T it 0 h → ∀ b ∈ [it, a], ∃ o, h.get? b = some o) := by
  rcases h with h | h
  · obtain ⟨us, rv, pl, hz⟩ := I.list h
    exact ⟨us, _, _, rv, hz, pl.lt, fun _ _ => trivial, fun h => h.IsList a us.toArray, pl.isList, begins_list a us.toArray, fun h h' it hl hk hi => ⟨⟨_, hi, rfl, rfl⟩, hl.at fun o e => hk a o e⟩, (its_list (prog := X.prog) (w := X.w)).draws, (its_list (prog := X.prog) (w := X.w)).there⟩
  · obtain ⟨us, rv, pl, hz⟩ := I.tuple h
    obtain ⟨o, ho, r⟩ := id pl
    exact ⟨us, _, _, rv, hz, Heap.lt_size ho, fun _ _ => trivial, fun h => h.IsTuple a us.toArray, pl, begins_tuple a us.toArray, fun h h' it hl hk hi => ⟨⟨_, hi, rfl, rfl⟩, hl.at fun o e => hk a o e⟩, (its_tup (prog := X.prog) (w := X.w)).draws, (its_tup (prog := X.prog) (w := X.w)).there⟩
def rDictZ (K : PySem.W.Frag) : List V → Hp → VK → Prop := fun vs H Q => ∃ (a b : Addr) (ks : List Str) (ys : List V), vs = [.ref a, .ref b] ∧ SqE K H a (ks.map V.str) ∧ SqE K H b ys ∧ ys.length = ks.length ∧ ks.Nodup ∧ ∀ p, H p = none → Q (.ref p) (upd H p (.dK ((ks.map fun k => (Sum.inr k : Key)).zip ys)))
theorem kv_zip {P : Program} {w : World} : ∀ {ks : List Str} {ys : List V} {us ws : List Value}, Vals (ks.map V.str) us → Vals ys ws → ys.length = ks.length → KV ((ks.map fun k => (Sum.inr k : Key)).zip ys) ((ks.map fun k => (Sum.inr k : Key)).zip ws)
  | [], _, _, _, _, _, _ => .nil
  | k :: ks, [], _, _, _, _, h => by simp at h
  | k :: ks, y :: ys, us, ws, hu, hw, hl => by
    cases hw with
    | cons hy hw =>
      cases hu with
      | cons hx hu => exact .cons ⟨rfl, hy⟩ (kv_zip (P := P) (w := w) hu hw (by simpa using hl))
theorem merge_nodup : ∀ (more acc : List (Key × V)), ((acc ++ more).map (·.1)).Nodup → mergeK acc more = acc ++ more
  | [], acc, _ => by simp [mergeK]
  | (k, v) :: r, acc, h => by
    have h1 : putK acc k v = acc ++ [(k, v)] := putK_new fun p hp e => by
      rw [List.map_append, List.nodup_append] at h
      exact h.2.2 p.1 (List.mem_map.mpr ⟨p, hp, rfl⟩) k (by simp) e
    show mergeK (putK acc k v) r = _
    rw [h1, merge_nodup r (acc ++ [(k, v)]) (by rw [List.append_assoc]; exact h), List.append_assoc]
    rfl
theorem zip_nodup {ks : List Str} {ys : List V} (h : ks.Nodup) (hl : ys.length = ks.length) : ((((ks.map fun k => (Sum.inr k : Key)).zip ys)).map (·.1)).Nodup := by
  rw [List.map_fst_zip (by simp [hl])]
  exact List.pairwise_map.mpr (h.imp fun hne e => hne (Sum.inr.inj e))
theorem pe_dictZ {a b : Expr} {ta : TA} {p p2 pos pos2 : Pos} (hg : Gl X "dict") (hm : X.mg "dict" = none) (hg2 : Gl X "zip") (hm2 : X.mg "zip" = none) (ha : PA X [a, b] ta)
    (hs : starEach [a, b] X.env = (false, eval a X.env) :: starEach [b] X.env := by rfl) (hpl : (backTo pos2 (starEach [b] X.env)).any (·.1) = false := by rfl) (hc : X.calm = true := by rfl) :
    PE X (.Call (.Name "dict" p) [.Call (.Name "zip" p2) [a, b] [] pos2] [] pos) (tCB (rDictZ X.K) ta) := by
  refine ⟨fun pins s σ H Q I h => ?_⟩
  refine Call_ (ld_blt I hg hm boot_dict (PyProof.Rows.callWith_type1 (args_cons (Call_ (ld_blt I hg2 hm2 PyProof.Rows.boot_zip (PyProof.Rows.callWith_type1 (thn (ha.run pos2 pins s σ H _ I h) fun us s1 ⟨vs, H1, I1, r1, q1⟩ => ?_) hs hpl))))))
  obtain ⟨x, y, ks, ys, ex, hx, hy, hl, hn, q⟩ := q1
  subst ex
  cases r1 with
  | cons r rr =>
    cases rr with
    | cons r' rr =>
      cases rr
      cases r
      cases r'
      obtain ⟨us1, o1, T1, rv1, z1, lt1, _, Hh1, hh1, B1, st1, D1, L1⟩ := sqE_its I1 hx
      obtain ⟨us2, o2, T2, rv2, z2, lt2, _, Hh2, hh2, B2, st2, D2, L2'⟩ := sqE_its I1 hy
      refine zip_begins2 B1 B2 hh1 hh2 fun h' hz hTI hTO h1 h2 hsz hk => args_nil ?_
      have S : ZipSep2 (s1.heap.objs.size + 4) (s1.heap.objs.size + 2) (s1.heap.objs.size + 3) s1.heap.objs.size (s1.heap.objs.size + 1) [s1.heap.objs.size, x] [s1.heap.objs.size + 1, y] :=
        zip_sep2 (N := s1.heap.objs.size) (fp1 := [x]) (fp2 := [y]) (fun _ h => by rw [List.mem_singleton.mp h]; exact lt1) (fun _ h => by rw [List.mem_singleton.mp h]; exact lt2)
      have e1 : us1.length = ks.length := by have := rv1.length; rw [List.length_map] at this; omega
      have e2 : us2.length = ks.length := by have := rv2.length; omega
      have P := pairArg_zip (prog := X.prog) (w := X.w) S (fun A hA => D1 A s1.heap.objs.size hA (Nat.ne_of_lt lt1)) (fun A hA => D2 A (s1.heap.objs.size + 1) hA (Nat.ne_of_lt (Nat.lt_succ_of_lt lt2))) (L1 _) (L2' _)
      refine call_dict_pairs (s := { s1 with heap := h' }) (knd := mixKind X.prog X.w) (kvs := (ks.map fun k => (Sum.inr k : Key)).zip us2) P (I1.ok.hd hc) ⟨hz, hTI, ⟨_, _, hTO⟩, st1 s1.heap h' _ hh1 hk h1, st2 s1.heap h' _ hh2 hk h2⟩ ⟨?_, fun i key v hr => ?_⟩ ?_ fun h2' tk hd' hk2 => ?_
      · rw [List.length_zip, List.length_map]
        omega
      · obtain ⟨r1, r2⟩ := hr
        have hi : i < us1.length := (List.getElem?_eq_some_iff.mp r1).1
        have hi2 : i < ks.length := by omega
        have hk1 : ks[i]? = some ks[i] := List.getElem?_eq_getElem hi2
        obtain ⟨u, hu, ru⟩ := rv1.get (i := i) (x := V.str ks[i]) (by rw [List.getElem?_map, hk1]; rfl)
        have eu : u = key := Option.some.inj (hu.symm.trans r1)
        subst eu
        exact ⟨Sum.inr ks[i], List.getElem?_zip_eq_some.mpr ⟨by rw [List.getElem?_map, hk1]; rfl, r2⟩, kV_is (P := X.prog) (w := X.w) (k := Sum.inr ks[i]) ru⟩
      · rw [List.length_map] at z1
        omega
      · have hm : (h'.objs.size == sysModules) = false := beq_eq_false_iff_ne.mpr (Nat.ne_of_gt (by rw [hsz]; exact Nat.lt_of_lt_of_le I1.big (Nat.le_add_right _ _)))
        have kv := kv_zip (P := X.prog) (w := X.w) rv1 rv2 hl
        have em : mergeK [] ((ks.map fun k => (Sum.inr k : Key)).zip ys) = (ks.map fun k => (Sum.inr k : Key)).zip ys := merge_nodup _ [] (by rw [List.nil_append]; exact zip_nodup hn hl)
        have hle : s1.heap.objs.size ≤ h'.objs.size := by rw [hsz]; exact Nat.le_add_right _ _
        have kk : ∀ b u, s1.heap.get? b = some u → h2'.get? b = some u := fun b u e => hk2 b u (fun hb => by
          have lt := Heap.lt_size e
          have e' : b = s1.heap.objs.size + 4 ∨ b = s1.heap.objs.size + 3 ∨ b = s1.heap.objs.size ∨ b = s1.heap.objs.size + 1 := by simpa using hb
          rcases e' with q | q | q | q
          · exact absurd (q ▸ lt) (Nat.not_lt_of_le (Nat.le_add_right _ _))
          · exact absurd (q ▸ lt) (Nat.not_lt_of_le (Nat.le_add_right _ _))
          · exact absurd (q ▸ lt) (Nat.lt_irrefl _)
          · exact absurd (q ▸ lt) (Nat.not_lt_of_le (Nat.le_add_right _ _))) (hk b u e)
        have mm := KV.merge kv .nil
        rw [em] at mm
        have zl : ((ks.map fun k => (Sum.inr k : Key)).zip ys).length ≤ sizeLine := by
          rw [List.length_zip, List.length_map]
          rw [List.length_map] at z1
          omega
        exact ⟨.ref h'.objs.size, _, I1.laid (t' := tk) kk hle (dk_new zl hm mm hd'), rfl, q _ (I1.hok.fresh hle)⟩
end
section
variable {K : PySem.W.Frag} {G H : Hp}
theorem valV_zip {ks : List Str} {ys : List V} {k : Str} {y : V} : ∀ {i : Nat}, ks.Nodup → ks[i]? = some k → ys[i]? = some y → valV ((ks.map fun k => (Sum.inr k : Key)).zip ys) (Sum.inr k) = some y := by
  induction ks generalizing ys with
  | nil => intro i _ h _; simp at h
  | cons a r ih =>
    intro i hn h1 h2
    cases ys with
    | nil => simp at h2
    | cons b t =>
      obtain ⟨hn1, hn2⟩ := List.nodup_cons.mp hn
      cases i with
      | zero =>
        obtain rfl := Option.some.inj h1
        obtain rfl := Option.some.inj h2
        simp [valV]
      | succ i =>
        have hr : k ∈ r := List.mem_of_getElem? h1
        have ne : ¬ (Sum.inr a : Key) = Sum.inr k := fun e => hn1 (by rw [Sum.inr.inj e]; exact hr)
        have := ih (ys := t) hn2 h1 h2
        simpa [valV, ne] using this
end
end Mi
namespace Mi
open PySem PySem.Spec PyProof.Rows L2 Evl
/-! ### (a, b) <= (c, d) -/
def leB (a b c d : Int) : Bool := if a = c then decide (b ≤ d) else decide (a ≤ c)
theorem op_leT_k {X : Cx} {K : PySem.W.Frag} (hu : X.A.units + 2 < cLine) (h : X.K = K := by rfl) : OpR X (compareOp .LtE) (rLeT K) := h ▸ op_leT (Nat.lt_of_le_of_lt (Nat.le_add_right _ 2) hu)
theorem ro_leT2 {K : PySem.W.Frag} {a b c d : Int} : Ro K (rLeT K) (.u (vis [a, b])) (.u (vis [c, d])) (.b (leB a b c d)) := by
  rintro _ _ H1 ⟨p, rfl, hp⟩ ⟨p', rfl, hp'⟩ Q q
  refine ⟨p, p', [a, b], [c, d], rfl, rfl, hp, hp', q _ H1 (Ex.refl H1) ?_⟩
  show V.bl _ = V.bl _
  congr 1
  unfold leB
  by_cases h : a = c
  · by_cases h2 : b = d
    · subst h h2
      simp [Ob.lexAt]
    · subst h
      simp [Ob.lexAt, h2]
  · simp [Ob.lexAt, h]
end Mi
namespace Mi
open PySem PySem.Spec PyProof.Rows L2 Evl
/-! ### len(obj), the object's class has its own __len__ -/
def rLenO (C : Addr) (sp : Sp) : List V → Hp → VK → Prop := fun vs H Q => ∃ a dx fs, vs = [.ref a] ∧ H a = some (.ins C dx fs) ∧ sp [.ref a] H (fun v H' => ∃ n : Int, v = .int n ∧ (0 ≤ n ∧ n < 2 ^ 63) ∧ Q (.int n) H') E0
theorem cr_lenO {X : Cx} {k : Nat} {f C : Addr} {fd : FuncData} {sp : Sp} {p1 : Str} (hi : PySem.W.findIn X.K (.ref C) "__len__" = some (some (.ref f))) (hfn : PySem.W.isFn X.K (.ref f) = true) (F : FnOk X.prog X.w X.K X.mg X.base CX0 k f fd [p1] sp) (hb : Binds X.K fd [p1] []) (hr : Room (k + 1) X.A) : CallR X (.builtin "len") (rLenO C sp) := by
  rintro pins s σ H xs us Q I r ⟨a, dx, fs, rfl, hx, h⟩
  obtain rfl := Vals.ref1 r
  obtain ⟨mA, J, _⟩ := ins_get I.hok hx
  obtain ⟨od, J, _⟩ := J.look
  obtain ⟨m, hF⟩ := I.fr
  refine PySem.W.len_K hF I.ok.mod.kin J hi hfn ?_
  have bd := hb s [.ref a] (I.kIn) rfl
  have hr1 : Room k X.A.in1 := Room.in1 (show Room (k + 1) X.A from hr)
  refine wpAny_call (codeAny_mono (F.run X.A.in1 X.stack s H ⟨[.ref a], []⟩ [.ref a] [.ref a] _ E0 hr1 I.env0.in1 bd (.cons rfl .nil) h) fun r s' hq => ?_)
  cases r with
  | error e => exact pass0 pins σ H s e s' I hq
  | ok fl =>
    cases fl with
    | ret u =>
      obtain ⟨w, H', I2, rv, n, rfl, hn, q⟩ := I.after hq
      obtain ⟨tk, eu⟩ : ∃ tk, u = .int n tk := rv
      subst eu
      exact ⟨hn, ⟨.int n, H', I2.tok _, ⟨_, rfl⟩, q⟩⟩
    | next => exact False.elim hq
    | brk => exact False.elim hq
    | cont => exact False.elim hq
/-! ### raise X(), X an own exception class without its own __init__ -/
theorem pmk_own0 {X : Cx} {C : Addr} {bmB : List Value} {B newId initId : String} {x : Str} {p pos : Pos} (F : ExcBaseFacts B newId initId bmB) (q : PySem.W.excIn X.K C bmB newId = true) (gC : X.mg x = some (.ref C)) (kC : PySem.W.keepIn X.K (.ref C) = true) (r : L2.Raises X (.ref C)) (hg : Gl X x)
    (hdb : (x == ("__debug__" : Str)) = false := by decide) : L2N.PMk X (.Call (.Name x p) [] [] pos) (fun _ H Q => Q (.ref C) none H) := by
  intro pins s σ H Q I h
  refine wpAny_Call_Name_kw (ld_glob I hg gC ?_ hdb)
  refine PySem.W.callWith_K0 I.kIn kC ?_
  show wpAny _ _ (call (.ref C) []) _ _ _
  obtain ⟨bm, N, nm, qn, bs, hdct, sn, sub, ab, col, dd, k0, k1, k2, k3, k5, mN, hC, hN, hni, T⟩ := exc_obj I.kIn q
  refine wpAny_call_exc_subT F T hC hN hni (fun h' e hm => ?_) (Nat.zero_le _)
  exact L2N.mk_of I hm r h (I.hok.gone hm.new)
/-! ### isinstance(e, A), isinstance(e, (A, B)), e without fields -/
def rIsE0 (K : PySem.W.Frag) (a : Addr) (cls : Value) (d : Option Addr) : List V → Hp → VK → Prop := fun xs H Q => ∃ (c : V) (cv : Value) (b : Bool) (D : Addr), xs = [.ref a, c] ∧ cls = .ref D ∧ d = none ∧ ExcC K D ∧ (∀ u, RelV c u → u = cv) ∧ PySem.W.kitOne K (.ref D) cv = some b ∧ Q (.bl b) H
def rIsET (K : PySem.W.Frag) (a : Addr) (cls : Value) (d : Option Addr) : List V → Hp → VK → Prop := fun xs H Q => ∃ (tp c1 c2 : Addr) (b : Bool) (D : Addr), xs = [.ref a, .ref tp] ∧ H tp = some (.tup [.ref c1, .ref c2]) ∧ cls = .ref D ∧ d = none ∧ ExcC K D ∧ PySem.W.kitAny K (.ref D) [.ref c1, .ref c2] = some b ∧ Q (.bl b) H
theorem exc_at {h : Heap} {a D : Addr} {oe : Obj} (hget : h.get? a = some oe) (hz : Zc (.ref D) none oe) (hf : ∃ vs, oe.data = .fields vs) : PySem.W.InstAt h a oe D none := by
  obtain ⟨vs, hv⟩ := hf
  obtain ⟨oc, od, oda, osl⟩ := oe
  obtain ⟨h1, h2⟩ := hz
  dsimp only at h1 h2 hv
  subst h1 h2 hv
  exact ⟨hget, rfl, rfl, trivial⟩
theorem call_isE0 {X : Cx} {K : PySem.W.Frag} {a : Addr} {oe : Obj} {cls : Value} {d : Option Addr} {pn : List (Addr × Obj)} (hz : Zc cls d oe) (hf : ∃ vs, oe.data = .fields vs) (h : X.K = K := by rfl) : CallR (X.suite a ((a, oe) :: pn)) (.builtin "isinstance") (rIsE0 K a cls d) := by
  subst h
  rintro pins s σ H xs us Q I r ⟨c, cv, b, D, rfl, rfl, rfl, C, hcv, e, q⟩
  obtain ⟨u1, u2, rfl, ru1, ru2⟩ := vals2 r
  obtain rfl : u1 = Value.ref a := ru1
  obtain rfl := hcv _ ru2
  obtain ⟨hget, _⟩ := I.pin (a, oe) (List.mem_append_left _ List.mem_cons_self)
  exact PySem.W.kia_one (PySem.W.handS_kitx_exc C.hg C.hk C.hs C.hd C.ha C.hn C.ht C.hm) I.kIn (exc_at hget hz hf) e (fun z => nomatch z) fun tk => ⟨.bl b, H, I.kept (t' := tk) fun _ _ z => z, rfl, q⟩
theorem call_isET {X : Cx} {K : PySem.W.Frag} {a : Addr} {oe : Obj} {cls : Value} {d : Option Addr} {pn : List (Addr × Obj)} (hz : Zc cls d oe) (hf : ∃ vs, oe.data = .fields vs) (h : X.K = K := by rfl) : CallR (X.suite a ((a, oe) :: pn)) (.builtin "isinstance") (rIsET K a cls d) := by
  subst h
  rintro pins s σ H xs us Q I r ⟨tp, c1, c2, b, D, rfl, hT, rfl, rfl, C, e, q⟩
  obtain ⟨u1, u2, rfl, ru1, ru2⟩ := vals2 r
  obtain rfl : u1 = Value.ref a := ru1
  obtain rfl : u2 = Value.ref tp := ru2
  obtain ⟨hget, _⟩ := I.pin (a, oe) (List.mem_append_left _ List.mem_cons_self)
  have J := exc_at hget hz hf
  obtain ⟨_, its, rv, o, h1, h2, n, h3⟩ := (show ObjOk X.prog X.w H s.heap tp (.tup [.ref c1, .ref c2]) from I.hok tp _ hT)
  obtain ⟨w1, w2, rfl, z1, z2⟩ := vals2 rv
  obtain rfl : w1 = Value.ref c1 := z1
  obtain rfl : w2 = Value.ref c2 := z2
  obtain ⟨oc, od, dt, sl⟩ := o
  simp only at h2 h3
  subst h2 h3
  exact PySem.W.kia_tup (PySem.W.handS_kitx_exc C.hg C.hk C.hs C.hd C.ha C.hn C.ht C.hm) I.kIn J h1 e (fun z => nomatch z) fun tk => ⟨.bl b, H, I.kept (t' := tk) fun _ _ z => z, rfl, q⟩
/-! ### calls by name, in the declared order -/
structure HasD (P : Program) (w : World) (K : PySem.W.Frag) (mg : Str → Option Value) (base : Heap) (k : Nat) (x : Str) (ps : List Str) (sp : Sp) : Prop where
  ex : ∃ f fd, mg x = some (.ref f) ∧ PySem.W.keepIn K (.ref f) = true ∧ FnOk P w K mg base CX0 k f fd ps sp ∧ ∀ (s : Shared) (ws : List Value), ws.length = ps.length → BindsTo s fd ⟨[], ps.zip ws⟩ (ps.zip ws)
theorem pe_callD {X : Cx} {k : Nat} {ps : List Str} {sp : Sp} {x : Str} {p pos : Pos} {kws : List Keyword} {t : TA} (F : HasD X.prog X.w X.K X.mg X.base k x ps sp) (hr : Room k X.A) (hkw : PK X kws t) (hg : Gl X x := by rfl) (hdb : (x == ("__debug__" : Str)) = false := by decide)
    (hall : (backToKw pos (keywordEach kws X.env)).all (·.1.isSome) = true := by rfl)
    (hks : (backToKw pos (keywordEach kws X.env)).filterMap (·.1) = ps := by rfl)
    (hpl : (backToKw pos (keywordEach kws X.env)).any (·.1.isNone) = false := by rfl) :
    PE X (.Call (.Name x p) [] kws pos) (tCall sp [] E0 t) := by
  obtain ⟨f, fd, hm, hk, F, hb⟩ := F.ex
  refine ⟨fun pins s σ H Q I h => ?_⟩
  refine wpAny_Call_Name_kw (ld_glob I hg hm ?_ hdb)
  refine PySem.W.callWith_KW0 (h₀ := X.base) I.ok.mod.kin hk hall (thn (hkw.run pos pins s σ H _ I h) fun ws s2 ⟨zs, H2, I2, rz, q2⟩ => ⟨I2.kIn, ?_⟩) hpl
  rw [hks]
  replace q2 : sp (zs ++ []) H2 Q E0 := q2
  rw [List.append_nil] at q2
  have hl := F.len _ _ _ _ q2
  have hw : ws.length = ps.length := by rw [← rz.length]; exact hl
  refine wpAny_call (codeAny_mono (F.run X.A X.stack s2 H2 ⟨[], ps.zip ws⟩ ws zs Q E0 hr I2.env0 (hb s2 ws hw) rz q2) fun r s' hq => ?_)
  cases r with
  | error e => exact pass0 pins σ H2 s2 e s' I2 hq
  | ok fl =>
    cases fl with
    | ret u => exact I2.after hq
    | next => exact False.elim hq
    | brk => exact False.elim hq
    | cont => exact False.elim hq
end Mi
namespace L2N
open PySem PySem.Spec PyProof.Rows L2
/-! ### try: .. except A as n: .. and further clauses, where the first one takes it -/
section
variable {X : Cx} {x n : Str} {c : Value} {i : Nat} {body suite : List Stmt} {b₀ : Stmt} {np pos pos' : Pos} {hds : List ExceptHandler} {tb : WX → TS} {ts : Addr → Value → Option Addr → TS}
theorem ps_try_as1 (hs : X.stack = X.env :: X.outer) (hf : X.env.frame = some X.env.locals) (hN : X.N.Nodup) (hi : X.N[i]? = some n) (hln : X.env.kindOf n = some .local) (hc : Names X x c)
    (hb : ∀ (W : WX) (pn : List (Addr × Obj)) (xe : Value → Shared → Prop), Takes (X.tr pn xe) W → PassesOwn (model X.prog X.w) X.A X.env xe → PSs (X.tr pn xe) body (tb W))
    (hsu : ∀ (a : Addr) (oe : Obj) (cls : Value) (d : Option Addr) (pn : List (Addr × Obj)), Zn cls d oe → (∃ vs, oe.data = .fields vs) → PSs (X.suite a ((a, oe) :: pn)) (b₀ :: suite) (ts a cls d)) :
    PS X (.Try body (.ExceptHandler (some (.Name x np)) (some n) (b₀ :: suite) pos' :: hds) [] [] pos) (fun D σ H => tb (wAs X.K c i ts (fun _ _ _ _ => False) D) D σ H) := by
  refine ⟨fun pins s σ H D I h => ?_⟩
  have ok := I.ok
  have hfr : X.A.frames = some (X.env :: X.outer) := by rw [ok.frames, hs]
  have hloc : Loc X.env.scope n := .inl hln
  refine wpAny_Try_except ?_
  refine wpAny_mono ((hb (wAs X.K c i ts (fun _ _ _ _ => False) D) (X.pn ++ pins) (fun e s₁ => wpAny (model X.prog X.w) X.A (noteFrame e X.env) (fun _ s₂ => wpAny (model X.prog X.w) X.A (setFlight e none) (fun _ s₃ =>
    wpAny (model X.prog X.w) X.A (handleBy e X.env (.ExceptHandler (some (.Name x np)) (some n) (b₀ :: suite) pos' :: hds)) (SP X pins D) X.xe s₃) X.xe s₂) X.xe s₁) (fun u s' xx => ?_) PassesOwn.looking).run [] s σ H D (I.toTry _) h) (fun f s1 hsp => ?_) (fun e s1 he => he)
  · obtain ⟨a, B, sI, pins', σ', H', cls, d, rfl, J', nb, up, sky, na, os, ag, b, hb1, hyes, hno⟩ := xx
    have J : Inv X pins σ' H' sI := J'.ofTry ok
    have sky' : Sky B (X.env :: X.outer) a (Zn cls d) X.env.locals s'.heap := by rw [← hs]; exact sky
    show wpAny (model X.prog X.w) X.A (noteFrame (.ref a) X.env) _ _ _
    refine Sky.land Zn.steady hfr hf sky' fun h3 fl3 up3 => ?_
    have J3 : Inv X pins σ' H' { s' with heap := h3 } := J.landed nb fl3.1 (up.trans up3) os ag
    obtain ⟨oe3, vs3, he3, hz3, hd3⟩ := fl3.there
    have notFr : ∀ {h : Heap} {o : Obj} {vs : Array Value}, h.FunFrames B (X.env :: X.outer) → h.get? a = some o → o.data = .fields vs → a ∉ frs (X.env :: X.outer) := fun {h o vs} ff e dd hm => by
      obtain ⟨_, o', e', hnf⟩ := ff.mem hm
      rw [e] at e'; cases e'
      exact hnf _ dd
    have nfr := notFr fl3.2.2.1 he3 hd3
    have nL : a ≠ X.env.locals := fun z => nfr (List.mem_filterMap.mpr ⟨X.env, List.mem_cons_self, by rw [hf, z]⟩)
    have nF : a ∉ X.fs := fun hm => by
      obtain ⟨e, he, q⟩ := List.mem_filterMap.mp hm
      exact nfr (List.mem_filterMap.mpr ⟨e, List.mem_cons_of_mem _ he, q⟩)
    have S3 := J3.suite he3 hd3 na nL nF
    refine wpAny_handleBy_cons (codeAny_handlers_test ?_) (by intro q; cases q)
    have LT : PySem.W.Looks (model X.prog X.w) h3 (typeOf (.ref a)) cls := fun A Q E s k q => wpAny_typeOf_ref (k _ _ he3) (by rw [hz3.1]; exact q)
    have LM := PySem.W.exm_one (M := model X.prog X.w) (J3.kIn) LT hb1
    have test : ∀ {Q : Value → Shared → Prop} {E : Value → Shared → Prop}, Q c { s' with heap := h3 } → wpAny (model X.prog X.w) (X.A.mark (some (.ref a))) (eval (.Name x np) X.env) Q E { s' with heap := h3 } := fun {Q E} q => by
      obtain ⟨hg, hdbg, hm | ⟨hm, hv, hnn⟩⟩ := hc
      · exact ld_glob (X := X.suite a ((a, oe3) :: (X.pn ++ pins))) S3 hg hm q hdbg
      · exact ld_blt (X := X.suite a ((a, oe3) :: (X.pn ++ pins))) S3 hg hm hv q hnn hdbg
    refine test (LM.here ?_)
    cases b with
    | true =>
      refine codeAny_handlers_suite_as ?_
      refine HandSPX.lands_againZ fl3 fun h4 fl4 up4 => ?_
      have J4 : Inv X pins σ' H' { s' with heap := h4 } := J.landed nb fl4.1 ((up.trans up3).trans up4) os ag
      obtain ⟨oe4, vs4, he4, hz4, hd4⟩ := fl4.there
      have S4 := J4.suite he4 hd4 na nL nF
      refine store_ok (X := X.suite a ((a, oe4) :: (X.pn ++ pins))) (v := .ref a) S4 hN hi hloc rfl (fun s5 S5 => ?_) (.inr hln)
      refine wpAny_mono ((hsu a oe4 cls d (X.pn ++ pins) hz4 ⟨_, hd4⟩).run [] s5 _ H' _ S5 (hyes rfl a na)) (fun f s6 hsp => ?_) (fun _ _ z => False.elim z)
      have end_ : ∀ {σ6 : St} {H6 : Hp} {Q : Shared → Prop}, Inv (X.suite a ((a, oe4) :: (X.pn ++ pins))) [] σ6 H6 s6 → (∀ s7, Inv X pins (σ6.set i none) H6 s7 → Q s7) →
          wpAny (model X.prog X.w) X.A (do bindName X.env n .none; unbindBehindTheSuite X.env n pos') (fun _ s7 => Q s7) X.xe s6 := fun {σ6 H6 Q} S6 hq => gone_ok (S6.unsuite ok) hN hi hln hq
      cases f with
      | next =>
        obtain ⟨σ6, H6, S6, q6⟩ := hsp
        exact end_ S6 fun s7 J7 => ⟨_, _, J7, q6⟩
      | brk =>
        obtain ⟨σ6, H6, S6, q6⟩ := hsp
        exact end_ S6 fun s7 J7 => ⟨_, _, J7, q6⟩
      | cont =>
        obtain ⟨σ6, H6, S6, q6⟩ := hsp
        exact end_ S6 fun s7 J7 => ⟨_, _, J7, q6⟩
      | ret u =>
        obtain ⟨v6, σ6, H6, S6, r6, q6⟩ := hsp
        exact end_ S6 fun s7 J7 => ⟨_, _, _, J7, r6, q6⟩
    | false => exact False.elim (hno rfl)
  · cases f with
    | next =>
      obtain ⟨σ', H', J', q⟩ := hsp
      exact wpAny_execs_nil ⟨σ', H', J'.ofTry ok, q⟩
    | brk =>
      obtain ⟨σ', H', J', q⟩ := hsp
      exact ⟨σ', H', J'.ofTry ok, q⟩
    | cont =>
      obtain ⟨σ', H', J', q⟩ := hsp
      exact ⟨σ', H', J'.ofTry ok, q⟩
    | ret u =>
      obtain ⟨v, σ', H', J', r, q⟩ := hsp
      exact ⟨v, σ', H', J'.ofTry ok, r, q⟩
end
end L2N

set_option maxHeartbeats 2000000
namespace Mi
open PySem PySem.Spec PyProof.Rows L2 Evl
/-! ### C(e, ..), where __init__ may raise -/
def tMakeS (C : Addr) (sp : Sp) (E : L2.St → XK) (t : TA) : TE := fun σ H Q => tMake C sp [] (E σ) t σ H Q
section
variable {X : Cx} {W : WX} {k : Nat} {f C : Addr} {fd : FuncData} {ps : List Str} {sp : Sp} {x : Str} {p pos : Pos} {e : Expr} {es : List Expr} {t : TA}
theorem run_makeS {CX : CXT} {E : XK} {pins : List (Addr × Obj)} {σ : L2.St} {H : Hp} {s : Shared} {Q : VK} {us ds : List Value} {vs dvs : List V} (M : Mk X.K C f) (F : FnOk X.prog X.w X.K X.mg X.base CX k f fd ps sp) (hr : Room (k + 1) X.A) (hb : Binds X.K fd ps ds) (hd : Vals dvs ds)
    (hx : PassesAt CX X σ E) (I : Inv X pins σ H s) (r : Vals vs us)
    (h : ∀ x dx, H x = none → H dx = none → dx ≠ x → sp (.ref x :: (vs ++ dvs)) (upd (upd H dx (.own x)) x (.ins C dx [])) (fun v H2 => v = .non ∧ Q (.ref x) H2) E) :
    wpAny (model X.prog X.w) X.A (call (.ref C) us) (EP X pins σ Q) X.xe s := by
  have hq := h (s.heap.objs.size + 1) s.heap.objs.size (I.hok.fresh (Nat.le_succ _)) (I.hok.fresh (Nat.le_refl _)) (Nat.ne_of_lt (Nat.lt_succ_self _))
  have I2 := Inv.made (C := C) I
  have r2 : Vals (V.ref (s.heap.objs.size + 1) :: (vs ++ dvs)) (Value.ref (s.heap.objs.size + 1) :: (us ++ ds)) := .cons rfl (r.append hd)
  have hl : (Value.ref (s.heap.objs.size + 1) :: us ++ ds).length = ps.length := by
    have e := r2.length
    rw [F.len _ _ _ _ hq] at e
    exact e.symm
  refine wpAny_call (make_map (f := f) I.kIn M.makes M.init (beq_iff_eq.mp M.fn) (codeAny_mono (F.run _ X.stack _ _ ⟨Value.ref (s.heap.objs.size + 1) :: us, []⟩ (Value.ref (s.heap.objs.size + 1) :: (us ++ ds)) _ _ E (hr.make C us [])
    (I2.env0.make C us []) (hb _ (Value.ref (s.heap.objs.size + 1) :: us) I2.kIn hl) r2 hq) fun r s' hq' => ?_))
  cases r with
  | error e => exact hx pins _ _ e s' I2 hq'
  | ok fl =>
    cases fl with
    | ret u =>
      obtain ⟨v, H', I3, rv, ev, q3⟩ := I2.after hq'
      subst ev
      exact ⟨rv, ⟨V.ref (s.heap.objs.size + 1), H', I3, rfl, q3⟩⟩
    | next => exact False.elim hq'
    | brk => exact False.elim hq'
    | cont => exact False.elim hq'
theorem pe_makeS (M : Mk X.K C f) (F : FnOk X.prog X.w X.K X.mg X.base (L2N.CX X.prog X.w) k f fd ps sp) (tk : L2N.Takes X W) (hr : Room (k + 1) X.A) (hg : Gl X x) (hm : X.mg x = some (.ref C)) (hb : Binds X.K fd ps [])
    (ha : PA X (e :: es) t) (hdb : (x == ("__debug__" : Str)) = false := by decide) (he : starEach (e :: es) X.env = (false, eval e X.env) :: starEach es X.env := by rfl) (hpl : (backTo pos (starEach es X.env)).any (·.1) = false := by rfl) :
    PE X (.Call (.Name x p) (e :: es) [] pos) (tMakeS C sp (WE W) t) := by
  refine ⟨fun pins s σ H Q I h => ?_⟩
  refine wpAny_Call_Name_kw (ld_glob I hg hm ?_ hdb)
  refine PySem.W.callWith_K (h₀ := X.base) I.ok.mod.kin M.kp (thn (ha.run pos pins s σ H _ I h) fun us s1 ⟨vs, H1, I1, r, q⟩ => ⟨I1.kIn, ?_⟩) he hpl
  exact run_makeS M F hr hb .nil (L2N.passAt tk σ) I1 r q
end
end Mi
namespace L2N
open PySem PySem.Spec PyProof.Rows L2
/-! ### try: .. except A as n: .. except B as n: .. -/
def wAsM (K : PySem.W.Frag) (i : Nat) (Wout : WX) (D : Ends) : List (Value × (Addr → Value → Option Addr → TS)) → WX
  | [] => Wout
  | (c, ts) :: r => wAs K c i ts (wAsM K i Wout D r) D
inductive HdsAs (X : Cx) (n : Str) : List ExceptHandler → List (Value × (Addr → Value → Option Addr → TS)) → Prop
  | nil : HdsAs X n [] []
  | cons {x : Str} {c : Value} {ts : Addr → Value → Option Addr → TS} {b₀ : Stmt} {suite : List Stmt} {np pos' : Pos} {hds : List ExceptHandler} {l : List (Value × (Addr → Value → Option Addr → TS))} (hc : Names X x c)
      (hsu : ∀ (a : Addr) (oe : Obj) (cls : Value) (d : Option Addr) (pn : List (Addr × Obj)), Zn cls d oe → (∃ vs, oe.data = .fields vs) → PSs (X.suite a ((a, oe) :: pn)) (b₀ :: suite) (ts a cls d)) (r : HdsAs X n hds l) :
      HdsAs X n (.ExceptHandler (some (.Name x np)) (some n) (b₀ :: suite) pos' :: hds) ((c, ts) :: l)
section
variable {X : Cx} {n : Str} {i : Nat} {body : List Stmt} {pos : Pos} {h₀ : ExceptHandler} {hds : List ExceptHandler} {l : List (Value × (Addr → Value → Option Addr → TS))} {tb : WX → TS} {Wout : WX}
theorem ps_try_asM (hs : X.stack = X.env :: X.outer) (hf : X.env.frame = some X.env.locals) (hN : X.N.Nodup) (hi : X.N[i]? = some n) (hln : X.env.kindOf n = some .local) (tk : Takes X Wout)
    (hb : ∀ (W : WX) (pn : List (Addr × Obj)) (xe : Value → Shared → Prop), Takes (X.tr pn xe) W → PassesOwn (model X.prog X.w) X.A X.env xe → PSs (X.tr pn xe) body (tb W))
    (hh : HdsAs X n (h₀ :: hds) l) :
    PS X (.Try body (h₀ :: hds) [] [] pos) (fun D σ H => tb (wAsM X.K i Wout D l) D σ H) := by
  refine ⟨fun pins s σ H D I h => ?_⟩
  have ok := I.ok
  have hfr : X.A.frames = some (X.env :: X.outer) := by rw [ok.frames, hs]
  have hloc : Loc X.env.scope n := .inl hln
  refine wpAny_Try_except ?_
  refine wpAny_mono ((hb (wAsM X.K i Wout D l) (X.pn ++ pins) (fun e s₁ => wpAny (model X.prog X.w) X.A (noteFrame e X.env) (fun _ s₂ => wpAny (model X.prog X.w) X.A (setFlight e none) (fun _ s₃ =>
    wpAny (model X.prog X.w) X.A (handleBy e X.env (h₀ :: hds)) (SP X pins D) X.xe s₃) X.xe s₂) X.xe s₁) (fun u s' xx => ?_) PassesOwn.looking).run [] s σ H D (I.toTry _) h) (fun f s1 hsp => ?_) (fun e s1 he => he)
  · obtain ⟨a, B, sI, pins', σ', H', cls, d, rfl, J', nb, up, sky, na, os, ag, w⟩ := xx
    have J : Inv X pins σ' H' sI := J'.ofTry ok
    have sky' : Sky B (X.env :: X.outer) a (Zn cls d) X.env.locals s'.heap := by rw [← hs]; exact sky
    show wpAny (model X.prog X.w) X.A (noteFrame (.ref a) X.env) _ _ _
    refine Sky.land Zn.steady hfr hf sky' fun h3 fl3 up3 => ?_
    have J3 : Inv X pins σ' H' { s' with heap := h3 } := J.landed nb fl3.1 (up.trans up3) os ag
    obtain ⟨oe3, vs3, he3, hz3, hd3⟩ := fl3.there
    have notFr : ∀ {h : Heap} {o : Obj} {vs : Array Value}, h.FunFrames B (X.env :: X.outer) → h.get? a = some o → o.data = .fields vs → a ∉ frs (X.env :: X.outer) := fun {h o vs} ff e dd hm => by
      obtain ⟨_, o', e', hnf⟩ := ff.mem hm
      rw [e] at e'; cases e'
      exact hnf _ dd
    have nfr := notFr fl3.2.2.1 he3 hd3
    have nL : a ≠ X.env.locals := fun z => nfr (List.mem_filterMap.mpr ⟨X.env, List.mem_cons_self, by rw [hf, z]⟩)
    have nF : a ∉ X.fs := fun hm => by
      obtain ⟨e, he, q⟩ := List.mem_filterMap.mp hm
      exact nfr (List.mem_filterMap.mpr ⟨e, List.mem_cons_of_mem _ he, q⟩)
    have S3 := J3.suite he3 hd3 na nL nF
    have go : ∀ {hds' : List ExceptHandler} {l' : List (Value × (Addr → Value → Option Addr → TS))}, HdsAs X n hds' l' → wAsM X.K i Wout D l' cls d σ' H' →
        wpAny (model X.prog X.w) X.A (handleBy (.ref a) X.env hds') (SP X pins D) X.xe { s' with heap := h3 } := by
      intro hds' l' hk
      induction hk with
      | nil =>
        intro w
        refine wpAny_handleBy_nil ?_
        obtain ⟨k1, k2, k3, oe, vs, T, oT, ts', he, hz, hd, h1, hr⟩ := id fl3
        unfold PySem.passOn
        refine wpAny_bind (wpAny_field he hd h1 ?_)
        rw [if_neg (show ¬ ((Value.ref T == Value.none) = true) from by simp)]
        have fin : wpAny (model X.prog X.w) X.A (setFlight (.ref a) X.env.frame) (fun _ s4 => wpAny (model X.prog X.w) X.A (throw (.ref a) : Sem Flow) (SP X pins D) X.xe s4) X.xe { s' with heap := h3 } := by
          rw [hf]
          refine HandSPX.setFlight_upZ fl3 fun h4 hh4 up4 => wpAny_throw (tk _ _ ?_)
          exact ⟨a, B, sI, pins, σ', H', cls, d, rfl, J, nb, (up.trans up3).trans up4, .inr (.inr (by rw [hs]; exact hh4)), na, os, ag, w⟩
        first
          | exact wpAny_bind (wpAny_pure (wpAny_bind fin))
          | exact wpAny_bind fin
      | @cons x c ts b₀ suite np pos' hds2 l2 hc hsu r ih =>
        intro w
        obtain ⟨b, hb1, hyes, hno⟩ := w
        refine wpAny_handleBy_cons (codeAny_handlers_test ?_) (by intro q; cases q)
        have LT : PySem.W.Looks (model X.prog X.w) h3 (typeOf (.ref a)) cls := fun A Q E s k q => wpAny_typeOf_ref (k _ _ he3) (by rw [hz3.1]; exact q)
        have LM := PySem.W.exm_one (M := model X.prog X.w) (J3.kIn) LT hb1
        have test : ∀ {Q : Value → Shared → Prop} {E : Value → Shared → Prop}, Q c { s' with heap := h3 } → wpAny (model X.prog X.w) (X.A.mark (some (.ref a))) (eval (.Name x np) X.env) Q E { s' with heap := h3 } := fun {Q E} q => by
          obtain ⟨hg, hdbg, hm | ⟨hm, hv, hnn⟩⟩ := hc
          · exact ld_glob (X := X.suite a ((a, oe3) :: (X.pn ++ pins))) S3 hg hm q hdbg
          · exact ld_blt (X := X.suite a ((a, oe3) :: (X.pn ++ pins))) S3 hg hm hv q hnn hdbg
        refine test (LM.here ?_)
        cases b with
        | true =>
          refine codeAny_handlers_suite_as ?_
          refine HandSPX.lands_againZ fl3 fun h4 fl4 up4 => ?_
          have J4 : Inv X pins σ' H' { s' with heap := h4 } := J.landed nb fl4.1 ((up.trans up3).trans up4) os ag
          obtain ⟨oe4, vs4, he4, hz4, hd4⟩ := fl4.there
          have S4 := J4.suite he4 hd4 na nL nF
          refine store_ok (X := X.suite a ((a, oe4) :: (X.pn ++ pins))) (v := .ref a) S4 hN hi hloc rfl (fun s5 S5 => ?_) (.inr hln)
          refine wpAny_mono ((hsu a oe4 cls d (X.pn ++ pins) hz4 ⟨_, hd4⟩).run [] s5 _ H' _ S5 (hyes rfl a na)) (fun f s6 hsp => ?_) (fun _ _ z => False.elim z)
          have end_ : ∀ {σ6 : St} {H6 : Hp} {Q : Shared → Prop}, Inv (X.suite a ((a, oe4) :: (X.pn ++ pins))) [] σ6 H6 s6 → (∀ s7, Inv X pins (σ6.set i none) H6 s7 → Q s7) →
              wpAny (model X.prog X.w) X.A (do bindName X.env n .none; unbindBehindTheSuite X.env n pos') (fun _ s7 => Q s7) X.xe s6 := fun {σ6 H6 Q} S6 hq => gone_ok (S6.unsuite ok) hN hi hln hq
          cases f with
          | next =>
            obtain ⟨σ6, H6, S6, q6⟩ := hsp
            exact end_ S6 fun s7 J7 => ⟨_, _, J7, q6⟩
          | brk =>
            obtain ⟨σ6, H6, S6, q6⟩ := hsp
            exact end_ S6 fun s7 J7 => ⟨_, _, J7, q6⟩
          | cont =>
            obtain ⟨σ6, H6, S6, q6⟩ := hsp
            exact end_ S6 fun s7 J7 => ⟨_, _, J7, q6⟩
          | ret u =>
            obtain ⟨v6, σ6, H6, S6, r6, q6⟩ := hsp
            exact end_ S6 fun s7 J7 => ⟨_, _, _, J7, r6, q6⟩
        | false =>
          show wpAny _ X.A (handleBy (.ref a) X.env hds2) _ _ _
          exact ih (hno rfl)
    exact go hh w
  · cases f with
    | next =>
      obtain ⟨σ', H', J', q⟩ := hsp
      exact wpAny_execs_nil ⟨σ', H', J'.ofTry ok, q⟩
    | brk =>
      obtain ⟨σ', H', J', q⟩ := hsp
      exact ⟨σ', H', J'.ofTry ok, q⟩
    | cont =>
      obtain ⟨σ', H', J', q⟩ := hsp
      exact ⟨σ', H', J'.ofTry ok, q⟩
    | ret u =>
      obtain ⟨v, σ', H', J', r, q⟩ := hsp
      exact ⟨v, σ', H', J'.ofTry ok, r, q⟩
end
end L2N

set_option maxHeartbeats 2000000
namespace Mi
open PySem PySem.Spec PyProof.Rows L2 Evl
/-! ### == and != of whatever is described -/
def pyV : V → PyData
  | .bl b => .bool b
  | .int i => .int i
  | .str x => .str x
  | _ => .none
def okV : V → Prop
  | .bl _ => True
  | .int _ => True
  | .str x => PyData.strOk x = true
  | .non => True
  | _ => False
mutual
def pyD : Dd → PyData
  | .v x => pyV x
  | .l xs => .list (xs.map pyV)
  | .n xs => .list (xs.map pyV)
  | .u xs => .tuple (xs.map pyV)
  | .L ds => .list (pyL ds)
  | .N ds => .list (pyL ds)
  | .U ds => .tuple (pyL ds)
  | .D => .none
  | .P _ => .none
def pyL : List Dd → List PyData
  | [] => []
  | d :: ds => pyD d :: pyL ds
end
mutual
def okPy : Nat → Dd → Prop
  | _, .v x => okV x
  | k, .l xs => 1 ≤ k ∧ ∀ x ∈ xs, okV x
  | k, .n xs => 1 ≤ k ∧ ∀ x ∈ xs, okV x
  | k, .u xs => 1 ≤ k ∧ ∀ x ∈ xs, okV x
  | 0, .L _ => False
  | k + 1, .L ds => okPyL k ds
  | 0, .N _ => False
  | k + 1, .N ds => okPyL k ds
  | 0, .U _ => False
  | k + 1, .U ds => okPyL k ds
  | _, .D => False
  | _, .P _ => False
def okPyL : Nat → List Dd → Prop
  | _, [] => True
  | k, d :: ds => okPy k d ∧ okPyL k ds
end
section
variable {K : PySem.W.Frag} {H : Hp}
theorem okV_dp : ∀ {x : V}, okV x → Dp K H x (pyV x) ∧ PyData.canLay0 (pyV x) = true ∧ PyData.depth (pyV x) = 0
  | .bl b, _ => ⟨.bl b, by simp [pyV, PyData.canLay0], by simp [pyV, PyData.depth]⟩
  | .int b, _ => ⟨.int b, by simp [pyV, PyData.canLay0], by simp [pyV, PyData.depth]⟩
  | .str b, h => ⟨.str b, by have h : PyData.strOk b = true := h; simp [pyV, PyData.canLay0, h], by simp [pyV, PyData.depth]⟩
  | .non, _ => ⟨.non, by simp [pyV, PyData.canLay0], by simp [pyV, PyData.depth]⟩
theorem okV_all : ∀ {xs : List V}, (∀ x ∈ xs, okV x) → DpAll K H xs (xs.map pyV) ∧ PyData.canLayAll0 (xs.map pyV) = true ∧ PyData.depthAll (xs.map pyV) = 0
  | [], _ => ⟨.nil, by simp [PyData.canLayAll0], by simp [PyData.depthAll]⟩
  | x :: r, h => by
    obtain ⟨a1, a2, a3⟩ := okV_dp (h x (List.mem_cons_self ..))
    obtain ⟨b1, b2, b3⟩ := okV_all (xs := r) fun y hy => h y (List.mem_cons_of_mem _ hy)
    exact ⟨.cons a1 b1, by simp only [List.map_cons, PyData.canLayAll0, a2, b2, Bool.and_self], by simp only [List.map_cons, PyData.depthAll, a3, b3]; rfl⟩
mutual
theorem dpk_of : ∀ {d : Dd} {k : Nat} {v : V}, okPy k d → Is K H d v → Dp K H v (pyD d) ∧ PyData.canLay0 (pyD d) = true ∧ PyData.depth (pyD d) ≤ k
  | .v x, k, v, h, hv => by
    obtain rfl : v = x := hv
    unfold okPy at h
    obtain ⟨a1, a2, a3⟩ := okV_dp h
    unfold pyD
    exact ⟨a1, a2, by omega⟩
  | .l xs, k, v, h, hv => by
    obtain ⟨p, rfl, hp⟩ := hv
    unfold okPy at h
    obtain ⟨a1, a2, a3⟩ := okV_all h.2
    unfold pyD
    exact ⟨.lst hp a1, by simp only [PyData.canLay0, a2], by simp only [PyData.depth, a3]; omega⟩
  | .n xs, k, v, h, hv => by
    have hv2 : Is K H (.l xs) v := hv.n2l
    obtain ⟨p, rfl, hp⟩ := hv2
    unfold okPy at h
    obtain ⟨a1, a2, a3⟩ := okV_all h.2
    unfold pyD
    exact ⟨.lst hp a1, by simp only [PyData.canLay0, a2], by simp only [PyData.depth, a3]; omega⟩
  | .u xs, k, v, h, hv => by
    obtain ⟨p, rfl, hp⟩ := hv
    unfold okPy at h
    obtain ⟨a1, a2, a3⟩ := okV_all h.2
    unfold pyD
    exact ⟨.tup hp a1, by simp only [PyData.canLay0, a2], by simp only [PyData.depth, a3]; omega⟩
  | .L ds, 0, v, h, hv => by
    unfold okPy at h
    exact h.elim
  | .L ds, k + 1, v, h, hv => by
    obtain ⟨p, vs, rfl, hp, hE⟩ := hv
    unfold okPy at h
    obtain ⟨a1, a2, a3⟩ := dpkL_of h hE
    unfold pyD
    exact ⟨.lst hp a1, by simp only [PyData.canLay0, a2], by simp only [PyData.depth]; omega⟩
  | .N ds, 0, v, h, hv => by
    unfold okPy at h
    exact h.elim
  | .N ds, k + 1, v, h, hv => by
    have hv2 : Is K H (.L ds) v := hv.N2L
    obtain ⟨p, vs, rfl, hp, hE⟩ := hv2
    unfold okPy at h
    obtain ⟨a1, a2, a3⟩ := dpkL_of h hE
    unfold pyD
    exact ⟨.lst hp a1, by simp only [PyData.canLay0, a2], by simp only [PyData.depth]; omega⟩
  | .U ds, 0, v, h, hv => by
    unfold okPy at h
    exact h.elim
  | .U ds, k + 1, v, h, hv => by
    obtain ⟨p, vs, rfl, hp, hE⟩ := hv
    unfold okPy at h
    obtain ⟨a1, a2, a3⟩ := dpkL_of h hE
    unfold pyD
    exact ⟨.tup hp a1, by simp only [PyData.canLay0, a2], by simp only [PyData.depth]; omega⟩
  | .D, k, v, h, hv => by
    unfold okPy at h
    exact h.elim
  | .P _, k, v, h, hv => by
    unfold okPy at h
    exact h.elim
theorem dpkL_of : ∀ {ds : List Dd} {k : Nat} {vs : List V}, okPyL k ds → IsE K H ds vs → DpAll K H vs (pyL ds) ∧ PyData.canLayAll0 (pyL ds) = true ∧ PyData.depthAll (pyL ds) ≤ k
  | [], k, vs, h, hv => by
    obtain rfl : vs = [] := hv
    unfold pyL
    exact ⟨.nil, by simp [PyData.canLayAll0], by simp [PyData.depthAll]⟩
  | d :: ds, k, vs, h, hv => by
    obtain ⟨x, r, rfl, hx, hr⟩ := hv
    unfold okPyL at h
    obtain ⟨a1, a2, a3⟩ := dpk_of h.1 hx
    obtain ⟨b1, b2, b3⟩ := dpkL_of h.2 hr
    unfold pyL
    exact ⟨.cons a1 b1, by simp only [PyData.canLayAll0, a2, b2, Bool.and_self], by simp only [PyData.depthAll]; omega⟩
end
theorem ro_eqP {d1 d2 : Dd} (h1 : okPy 64 d1) (h2 : okPy 64 d2) : Ro K (rEqD K) d1 d2 (.b (PyData.eqv (pyD d1) (pyD d2))) := by
  rintro v1 v2 H1 z1 z2 Q q
  obtain ⟨a1, a2, a3⟩ := dpk_of h1 z1
  obtain ⟨b1, b2, b3⟩ := dpk_of h2 z2
  exact ⟨_, _, a1, b1, by simp only [SeqAt.shaped, a2, decide_eq_true a3, Bool.and_self], by simp only [SeqAt.shaped, b2, decide_eq_true b3, Bool.and_self], q _ H1 (Ex.refl H1) rfl⟩
theorem ro_neP {d1 d2 : Dd} (h1 : okPy 64 d1) (h2 : okPy 64 d2) : Ro K (rNeD K) d1 d2 (.b (!PyData.eqv (pyD d1) (pyD d2))) := by
  rintro v1 v2 H1 z1 z2 Q q
  obtain ⟨a1, a2, a3⟩ := dpk_of h1 z1
  obtain ⟨b1, b2, b3⟩ := dpk_of h2 z2
  exact ⟨_, _, a1, b1, by simp only [SeqAt.shaped, a2, decide_eq_true a3, Bool.and_self], by simp only [SeqAt.shaped, b2, decide_eq_true b3, Bool.and_self], q _ H1 (Ex.refl H1) rfl⟩
theorem pyL_map {α : Type} {l : List α} {f : α → Dd} : pyL (l.map f) = l.map fun a => pyD (f a) := by
  induction l with
  | nil => rfl
  | cons a r ih => show pyD (f a) :: pyL (r.map f) = _; rw [ih]; rfl
theorem okPyL_map {α : Type} {k : Nat} {f : α → Dd} : ∀ {l : List α}, (∀ a ∈ l, okPy k (f a)) → okPyL k (l.map f)
  | [], _ => by show okPyL k []; unfold okPyL; trivial
  | a :: r, h => by
    show okPyL k (f a :: r.map f)
    unfold okPyL
    exact ⟨h a (List.mem_cons_self ..), okPyL_map fun b hb => h b (List.mem_cons_of_mem _ hb)⟩
/-- data of the same kind, compared one by one -/
theorem eqv_map {α : Type} [DecidableEq α] {f : α → PyData} (h : ∀ a b, PyData.eqv (f a) (f b) = decide (a = b)) : ∀ l m : List α, PyData.eqvAll (l.map f) (m.map f) = decide (l = m)
  | [], [] => by simp [PyData.eqvAll]
  | [], _ :: _ => by simp [PyData.eqvAll]
  | _ :: _, [] => by simp [PyData.eqvAll]
  | a :: r, b :: t => by
    simp only [List.map_cons, PyData.eqvAll, h, eqv_map h r t]
    by_cases h1 : a = b <;> by_cases h2 : r = t <;> simp [h1, h2]
theorem eqv_strs1 (a b : List Nat) : PyData.eqv (.str (S a)) (.str (S b)) = decide (a = b) := by
  simp only [PyData.eqv]
  by_cases h : a = b
  · simp [h]
  · have h2 : ¬ (S a = S b) := fun e => h (S_inj e)
    simp [h, h2]
/-- pairs of texts, lists or tuples -/
def prL (p : List Nat × List Nat) : PyData := .list [.str (S p.1), .str (S p.2)]
theorem eqv_prL (p q : List Nat × List Nat) : PyData.eqv (prL p) (prL q) = decide (p = q) := by
  simp only [prL, PyData.eqv, PyData.eqvAll]
  rw [show (S p.1 == S q.1) = decide (p.1 = q.1) from eqv_strs1 p.1 q.1, show (S p.2 == S q.2) = decide (p.2 = q.2) from eqv_strs1 p.2 q.2]
  obtain ⟨a, b⟩ := p
  obtain ⟨c, d⟩ := q
  by_cases h1 : a = c <;> by_cases h2 : b = d <;> simp [h1, h2]
theorem eqv_prP (p q : List Nat × List Nat) : PyData.eqv (prP p) (prP q) = decide (p = q) := by
  simp only [prP, PyData.eqv, PyData.eqvAll]
  rw [show (S p.1 == S q.1) = decide (p.1 = q.1) from eqv_strs1 p.1 q.1, show (S p.2 == S q.2) = decide (p.2 = q.2) from eqv_strs1 p.2 q.2]
  obtain ⟨a, b⟩ := p
  obtain ⟨c, d⟩ := q
  by_cases h1 : a = c <;> by_cases h2 : b = d <;> simp [h1, h2]
end
end Mi

set_option maxHeartbeats 2000000
namespace PySem.SeqAt
open PySem
open MeetsSeq
/-! ### builtin values decline == with an own object -/
theorem int_eq_own_int (b : Int) (u : Tok) (x : Addr) (C dx : Addr) :
    Meets (Builtin.«int.__eq__» ⟨[.int b u, .ref x], []⟩) (fun _ R s => s.heap.get? x = some ⟨.ref C, some dx, .plain, #[]⟩ ∧ R (.ok (.ret .notImplemented)) s) :=
  .of_wp fun prog w A R s h => by obtain ⟨hp, g, d, tk, os⟩ := s; obtain ⟨hl, h⟩ := h; wp_walk using AutoSeq1.wpAny_loadPart' hl, wpAny_load hl; exact ⟨_, rfl, h⟩
theorem int_eq_own_bool (b : Bool) (x : Addr) (C dx : Addr) :
    Meets (Builtin.«int.__eq__» ⟨[.bool b, .ref x], []⟩) (fun _ R s => s.heap.get? x = some ⟨.ref C, some dx, .plain, #[]⟩ ∧ R (.ok (.ret .notImplemented)) s) :=
  .of_wp fun prog w A R s h => by obtain ⟨hp, g, d, tk, os⟩ := s; obtain ⟨hl, h⟩ := h; wp_walk using AutoSeq1.wpAny_loadPart' hl, wpAny_load hl; exact ⟨_, rfl, h⟩
theorem str_eq_own (b : Str) (u : Tok) (x : Addr) (C dx : Addr) :
    Meets (Builtin.«str.__eq__» ⟨[.str b u, .ref x], []⟩) (fun _ R s => s.heap.get? x = some ⟨.ref C, some dx, .plain, #[]⟩ ∧ R (.ok (.ret .notImplemented)) s) :=
  .of_wp fun prog w A R s h => by obtain ⟨hp, g, d, tk, os⟩ := s; obtain ⟨hl, h⟩ := h; wp_walk using AutoSeq1.wpAny_loadPart' hl, wpAny_load hl; exact ⟨_, rfl, h⟩
theorem list_eq_own {K : PySem.W.Frag} (l : Addr) (items : Array Value) (n : Nat) (dd : Option Addr) (sl : Array (Option Value)) (x C dx : Addr) (hs : PySem.W.subIn K (.ref C) (.type "list") = some false) :
    Meets (Builtin.«list.__eq__» ⟨[.ref l, .ref x], []⟩) (fun _ R s => s.heap.get? l = some { cls := .type "list", dict := dd, data := .seq items n, slots := sl } ∧ s.heap.get? x = some ⟨.ref C, some dx, .plain, #[]⟩ ∧ K.In s.heap ∧ R (.ok (.ret .notImplemented)) s) :=
  .of_wp fun prog w A R s h => by
    obtain ⟨hp, g, d, tk, os⟩ := s
    obtain ⟨hl, hx, hK, h⟩ := h
    wp_walk using AutoSeq1.wpAny_loadPart' hl, AutoSeq1.wpAny_loadPart' hx
    refine (PySem.W.looks_subIn hK hs).here ?_
    rw [if_pos (by rfl)]
    exact wpAny_pure ⟨_, rfl, h⟩
theorem tuple_eq_own {K : PySem.W.Frag} (l : Addr) (items : Array Value) (n : Nat) (dd : Option Addr) (sl : Array (Option Value)) (x C dx : Addr) (hs : PySem.W.subIn K (.ref C) (.type "tuple") = some false) :
    Meets (Builtin.«tuple.__eq__» ⟨[.ref l, .ref x], []⟩) (fun _ R s => s.heap.get? l = some { cls := .type "tuple", dict := dd, data := .seq items n, slots := sl } ∧ s.heap.get? x = some ⟨.ref C, some dx, .plain, #[]⟩ ∧ K.In s.heap ∧ R (.ok (.ret .notImplemented)) s) :=
  .of_wp fun prog w A R s h => by
    obtain ⟨hp, g, d, tk, os⟩ := s
    obtain ⟨hl, hx, hK, h⟩ := h
    wp_walk using AutoSeq1.wpAny_loadPart' hl, AutoSeq1.wpAny_loadPart' hx
    refine (PySem.W.looks_subIn hK hs).here ?_
    rw [if_pos (by rfl)]
    exact wpAny_pure ⟨_, rfl, h⟩
end PySem.SeqAt
namespace PySem.W
open PySem
section
variable {prog : Program} {w : World} {A : Around} {E : Value → Shared → Prop} {s : Shared} {K : Frag} {x C L f : Addr} {h₀ : Heap} {m : Str → Option Value} {ox : Obj} {od : Option Obj}
/-- a builtin value that declines, then the own __eq__ -/
theorem rc_own_r {a : Value} {T id : String} {Q : Value → Shared → Prop} (hu : A.units < cLine) (X : K.In s.heap) (I : InstAt s.heap x ox C od) (ha : s.TypeIs a T) (h1 : Slot T "__eq__" id) (hone : oneThing? .Eq a (.ref x) = none)
    (hc1 : ∀ Q' : Value → Shared → Prop, Q' .notImplemented s → wpAny (model prog w) A (call (.builtin id) [a, .ref x]) Q' E s) (hsub : subIn K (.ref C) (.type T) = some false)
    (hs : findIn K (.ref C) "__eq__" = some (some (.ref f))) (hf : isFn K (.ref f) = true) (h : wpAny (model prog w) A (call (.ref f) [.ref x, a]) (CmpBack Q) E s) : wpAny (model prog w) A (richCompare .Eq a (.ref x)) Q E s := by
  have two : wpAny (model prog w) A (tryCompare (.ref x) "__eq__" a) (fun r s' => ∃ v, r = some v ∧ Q v s') E s := by
    unfold tryCompare
    refine wpAny_bind (ifBound_K X I hs hf (wpAny_mono h (fun v s' hv => ?_) fun _ _ e => e))
    cases v <;> first | exact hv.elim | exact wpAny_pure ⟨_, rfl, hv⟩
  have one : wpAny (model prog w) A (tryCompare a "__eq__" (.ref x)) (fun r s' => r = none ∧ s' = s) E s := wpAny_tryCompare_declines ha h1 (hc1 _ ⟨rfl, rfl, rfl⟩)
  unfold richCompare
  simp only [hone, cmpInfo]
  refine wpAny_holding (wpAny_bind (wpAny_cRoomFor hu ?_))
  refine wpAny_bind (wpAny_typeOf ha (wpAny_bind (I.type.here ?_)))
  rw [if_pos (by rfl)]
  refine wpAny_bind ((looks_subIn X hsub).here ?_)
  simp only [Bool.false_eq_true, if_false, Bool.not_false, if_true]
  refine wpAny_bind (wpAny_mono one (fun r s' z => ?_) fun _ _ e => e)
  obtain ⟨rfl, rfl⟩ := z
  refine wpAny_bind (wpAny_mono two (fun r s' z => ?_) fun _ _ e => e)
  obtain ⟨v, rfl, hq⟩ := z
  exact wpAny_pure hq
/-- != by object.__ne__ over the own __eq__ -/
theorem rc_own_ne {b tb : Value} {Q : Value → Shared → Prop} (hu : A.units + 1 < cLine) (X : K.In s.heap) (I : InstAt s.heap x ox C od) (hb : Looks (model prog w) s.heap (typeOf b) tb) (hn : notFirst K C tb = true)
    (hne : findIn K (.ref C) "__ne__" = some (some (.builtin "object.__ne__"))) (hobj : subIn K (.ref C) (.type "object") = some true) (hs : findIn K (.ref C) "__eq__" = some (some (.ref f))) (hf : isFn K (.ref f) = true)
    (h : wpAny (model prog w) A.in1 (call (.ref f) [.ref x, b]) (fun v s' => ∃ r, v = .bool r ∧ Q (.bool (!r)) s') E s) : wpAny (model prog w) A (richCompare .NotEq (.ref x) b) Q E s := by
  have body : wpAny (model prog w) A (call (.builtin "object.__ne__") [.ref x, b]) (fun v s' => ∃ r, v = .bool r ∧ Q (.bool r) s') E s := by
    refine wpAny_call (codeAny_call_builtin F.cmp_object.ne.plain F.cmpEntry_ne (@check_slot (model prog w) _ _ s "object.__ne__" "object" "__ne__" (.ref x) [b] [] _ F.cmpKind_ne F.cmpSplit_ne (I.type.andThen (looks_subIn X hobj)) (F.cmpArgs_ne _ _) ?_))
    unfold Builtin.«object.__ne__»
    have hu1 : A.in1.units < cLine := by
      have : A.in1.units ≤ A.units + 1 := by first | exact Nat.le_refl _ | (unfold Around.in1; simp)
      omega
    have h' : wpAny (model prog w) A.in1 (callSpecialIfBound? (.ref x) "__eq__" [b]) (fun v s' => ∃ r, v = some (.bool r) ∧ Q (.bool (!r)) s') E s :=
      ifBound_K X I hs hf (wpAny_mono h (fun v s' hv => by obtain ⟨r, rfl, hq⟩ := hv; exact ⟨r, rfl, hq⟩) fun _ _ e => e)
    repeat (first | with_reducible refine wpAny_cRoomFor hu1 ?_ | (with_reducible refine wpAny_bind (m := callSpecialIfBound? _ _ _) ?_; refine wpAny_mono h' ?_ ?_) | (with_reducible refine wpAny_mono h' ?_ ?_) | wp_step)
    · rintro a s' ⟨r, rfl, hq⟩
      exact wpAny_bind (wpAny_truthy_bool (wpAny_pure ⟨_, rfl, hq⟩))
    · exact fun _ _ e => e
  have one : wpAny (model prog w) A (tryCompare (.ref x) "__ne__" b) (fun r s' => ∃ v, r = some v ∧ Q v s') E s := by
    unfold tryCompare
    refine wpAny_bind ?_
    simp only [callSpecialIfBound?, bindSpecialIfBound?]
    refine wpAny_holding (wpAny_bind (wpAny_bind (wpAny_bind (I.type.here ((looks_findIn X hne).here ?_)))))
    simp only [F.cmp_object.ne.bind]
    refine wpAny_bind (wpAny_askSetting (wpAny_ite ?_))
    have fin : wpAny (model prog w) A (call (.builtin "object.__ne__") ([.ref x] ++ [b]) >>= fun v => pure (some v)) (fun a s' => wpAny (model prog w) A (match a with | some .notImplemented | none => pure none | some v => pure (some v)) (fun r s' => ∃ v, r = some v ∧ Q v s') E s') E s := by
      refine wpAny_bind (wpAny_mono body (fun v s' h' => wpAny_pure ?_) fun _ _ h' => h')
      obtain ⟨r, rfl, hq⟩ := h'
      exact wpAny_pure ⟨_, rfl, hq⟩
    split
    · exact wpAny_bind (wpAny_pure (wpAny_pure (by exact fin)))
    · exact wpAny_tryCatch (wpAny_bind (wpAny_pure (wpAny_pure (by exact fin))))
  have X' := X
  unfold richCompare
  simp only [oneThing_ref, cmpInfo]
  refine wpAny_holding (wpAny_bind (wpAny_cRoomFor (by omega) ?_))
  refine wpAny_bind (I.type.here (wpAny_bind (hb.here ?_)))
  split
  · rename_i q
    have e : subIn K tb (.ref C) = some false := by
      rcases Bool.or_eq_true_iff.mp hn with e | e
      · rw [beq_iff_eq.mp e] at q; simp at q
      · exact beq_iff_eq.mp e
    refine wpAny_bind ((looks_subIn X e).here ?_)
    simp only [Bool.false_eq_true, if_false]
    refine wpAny_bind (wpAny_mono one (fun r s' z => ?_) fun _ _ e => e)
    obtain ⟨v, rfl, hq⟩ := z
    exact wpAny_pure hq
  · refine wpAny_bind (wpAny_pure ?_)
    simp only [Bool.false_eq_true, if_false]
    refine wpAny_bind (wpAny_mono one (fun r s' z => ?_) fun _ _ e => e)
    obtain ⟨v, rfl, hq⟩ := z
    exact wpAny_pure hq
end
end PySem.W
namespace Mi
open PySem PySem.Spec PyProof.Rows L2 Evl
/-! ### == and != of an own object with anything -/
structure EqC (K : PySem.W.Frag) (C f : Addr) : Prop where
  hs : PySem.W.findIn K (.ref C) "__eq__" = some (some (.ref f))
  hf : PySem.W.isFn K (.ref f) = true
  hne : PySem.W.findIn K (.ref C) "__ne__" = some (some (.builtin "object.__ne__"))
  hob : PySem.W.subIn K (.ref C) (.type "object") = some true
  nI : PySem.W.subIn K (.ref C) (.type "int") = some false
  nB : PySem.W.subIn K (.ref C) (.type "bool") = some false
  nS : PySem.W.subIn K (.ref C) (.type "str") = some false
  nN : PySem.W.subIn K (.ref C) (.type "NoneType") = some false
  nL : PySem.W.subIn K (.ref C) (.type "list") = some false
  nT : PySem.W.subIn K (.ref C) (.type "tuple") = some false
inductive Kd (K : PySem.W.Frag) (H : Hp) : V → Prop
  | non : Kd K H .non
  | bl (b : Bool) : Kd K H (.bl b)
  | int (i : Int) : Kd K H (.int i)
  | str (x : Str) : Kd K H (.str x)
  | lst {a : Addr} {xs : List V} (h : SqL K H a xs) : Kd K H (.ref a)
  | tup {a : Addr} {xs : List V} (h : SqT K H a xs) : Kd K H (.ref a)
structure KdOk (X : Cx) (s : Shared) (C : Addr) (u : Value) (T id : String) : Prop where
  ty : s.TypeIs u T
  lk : PySem.W.Looks (model X.prog X.w) s.heap (typeOf u) (.type T)
  sl : Slot T "__eq__" id
  n1 : PySem.W.subIn X.K (.ref C) (.type T) = some false
  n2 : PySem.W.subIn X.K (.type T) (.ref C) = some false
  dec : ∀ (x dx : Addr), s.heap.get? x = some (PySem.W.instObj C dx) → ∀ (E : Value → Shared → Prop) (Q' : Value → Shared → Prop), Q' .notImplemented s → wpAny (model X.prog X.w) X.A (call (.builtin id) [u, .ref x]) Q' E s
theorem kd_ok {X : Cx} {pins : List (Addr × Obj)} {σ : L2.St} {H : Hp} {s : Shared} {C f : Addr} {x : V} {u : Value} (EC : EqC X.K C f) (I : Inv X pins σ H s) (rx : RelV x u) (k : Kd X.K H x) : ∃ T id, KdOk X s C u T id := by
  cases k with
  | non =>
    cases (show u = Value.none from rx)
    exact ⟨"NoneType", _, rfl, fun A Q E s' _ q => wpAny_typeOf (typeIs_none s') q, F.slot_NoneType_eq, EC.nN, by kernel_rfl, fun x dx hx E Q' hq => call_gives F.slot_NoneType_eq rfl F.entry_NoneType_eq (F.args_NoneType_eq_2 _ _) (SeqAt.NoneType___eq___none_ref_0 x) hq⟩
  | bl b =>
    cases (show u = Value.bool b from rx)
    exact ⟨"bool", _, rfl, fun A Q E s' _ q => wpAny_typeOf (PySem.typeIs_bool s' b) q, F.slot_bool_eq_refl, EC.nB, by kernel_rfl, fun x dx hx E Q' hq => call_meets F.slot_bool_eq_refl rfl F.entry_int_eq (F.args_int_eq_2 _ _) (SeqAt.int_eq_own_bool b x C dx) ⟨hx, hq⟩⟩
  | int i =>
    obtain ⟨t, q⟩ := (show ∃ t, u = Value.int i t from rx)
    cases q
    exact ⟨"int", _, rfl, fun A Q E s' _ q => wpAny_typeOf (typeIs_int s' i t) q, F.slot_int_eq, EC.nI, by kernel_rfl, fun x dx hx E Q' hq => call_meets F.slot_int_eq rfl F.entry_int_eq (F.args_int_eq_2 _ _) (SeqAt.int_eq_own_int i t x C dx) ⟨hx, hq⟩⟩
  | str y =>
    obtain ⟨t, q⟩ := (show ∃ t, u = Value.str y t from rx)
    cases q
    exact ⟨"str", _, rfl, fun A Q E s' _ q => wpAny_typeOf (typeIs_str s' y t) q, F.slot_str_eq, EC.nS, by kernel_rfl, fun x dx hx E Q' hq => call_meets F.slot_str_eq rfl F.entry_str_eq (F.args_str_eq_2 _ _) (SeqAt.str_eq_own y t x C dx) ⟨hx, hq⟩⟩
  | @lst a xs h =>
    cases (show u = Value.ref a from rx)
    obtain ⟨its, r, ⟨⟨cls, dd, data, sl⟩, n, e, hc, hd, hdat⟩, _⟩ := I.list h
    simp only at hc hd hdat
    subst hc hd hdat
    exact ⟨"list", _, ⟨_, e, rfl⟩, fun A Q E s' k q => wpAny_typeOf_ref (k _ _ e) q, F.slot_list_eq, EC.nL, by kernel_rfl, fun x dx hx E Q' hq => call_meets F.slot_list_eq ⟨_, e, rfl⟩ F.entry_list_eq (F.args_list_eq_2 _ _) (SeqAt.list_eq_own (K := X.K) a its.toArray n none sl x C dx EC.nL) ⟨e, hx, I.kIn, hq⟩⟩
  | @tup a xs h =>
    cases (show u = Value.ref a from rx)
    obtain ⟨its, r, ⟨⟨cls, dd, data, sl⟩, e, hc, n, hdat⟩, _⟩ := I.tuple h
    simp only at hc hdat
    subst hc hdat
    exact ⟨"tuple", _, ⟨_, e, rfl⟩, fun A Q E s' k q => wpAny_typeOf_ref (k _ _ e) q, F.slot_tuple_eq, EC.nT, by kernel_rfl, fun x dx hx E Q' hq => call_meets F.slot_tuple_eq ⟨_, e, rfl⟩ F.entry_tuple_eq (F.args_tuple_eq_2 _ _) (SeqAt.tuple_eq_own (K := X.K) a its.toArray n dd sl x C dx EC.nT) ⟨e, hx, I.kIn, hq⟩⟩
section
variable {X : Cx} {k : Nat} {C f : Addr} {fd : FuncData} {sp : Sp} {ps : List Str}
theorem own_call {A : Around} {pins : List (Addr × Obj)} {σ : L2.St} {H : Hp} {s : Shared} {Q : VK} {us : List Value} {vs : List V} (F : FnOk X.prog X.w X.K X.mg X.base CX0 k f fd ps sp) (hr : Room k A) (hfr : A.frames = X.A.frames) (hb : Binds X.K fd ps []) (I : Inv X pins σ H s) (r : Vals vs us) (h : sp vs H Q E0) :
    wpAny (model X.prog X.w) A (call (.ref f) us) (EP X pins σ Q) X.xe s := by
  have e0 : Env0 X.prog X.w X.K X.mg X.base A X.stack s H := by
    have e := I.env0
    exact ⟨by rw [hfr]; exact e.frames, e.mod, e.bs, e.bsz, e.funs, e.frf, e.hok, e.bare⟩
  have hl := F.len _ _ _ _ h
  refine wpAny_call (codeAny_mono (F.run A X.stack s H ⟨us, []⟩ us vs _ E0 hr e0 (by
    have := hb s us I.kIn (by simpa [r.length] using hl)
    simpa using this) r h) fun q s' hq => ?_)
  cases q with
  | error e => exact pass0 pins σ H s e s' I hq
  | ok fl =>
    cases fl with
    | ret w => exact I.after hq
    | next => exact False.elim hq
    | brk => exact False.elim hq
    | cont => exact False.elim hq
def rEqOwn (K : PySem.W.Frag) (C : Addr) (sp : Sp) : R2 := fun x y H Q => ∃ a dx fs, x = .ref a ∧ H a = some (.ins C dx fs) ∧ (Kd K H y ∨ ∃ b dy gs, y = .ref b ∧ H b = some (.ins C dy gs)) ∧ sp [x, y] H (fun v H' => (∃ b, v = .bl b) ∧ Q v H') E0
def rNeOwn (K : PySem.W.Frag) (C : Addr) (sp : Sp) : R2 := fun x y H Q => ∃ a dx fs, x = .ref a ∧ H a = some (.ins C dx fs) ∧ (Kd K H y ∨ ∃ b dy gs, y = .ref b ∧ H b = some (.ins C dy gs)) ∧ sp [x, y] H (fun v H' => ∃ b, v = .bl b ∧ Q (.bl (!b)) H') E0
def rEqOwnR (K : PySem.W.Frag) (C : Addr) (sp : Sp) : R2 := fun x y H Q => ∃ a dx fs, y = .ref a ∧ H a = some (.ins C dx fs) ∧ Kd K H x ∧ sp [y, x] H (fun v H' => (∃ b, v = .bl b) ∧ Q v H') E0
theorem kd_look {pins : List (Addr × Obj)} {σ : L2.St} {H : Hp} {s : Shared} {y : V} {u : Value} (EC : EqC X.K C f) (I : Inv X pins σ H s) (ry : RelV y u) (k : Kd X.K H y ∨ ∃ b dy gs, y = .ref b ∧ H b = some (.ins C dy gs)) : ∃ tb, PySem.W.Looks (model X.prog X.w) s.heap (typeOf u) tb ∧ PySem.W.notFirst X.K C tb = true := by
  rcases k with k | ⟨b, dy, gs, rfl, hb⟩
  · obtain ⟨T, id, k⟩ := kd_ok EC I ry k
    exact ⟨_, k.lk, by unfold PySem.W.notFirst; rw [k.n2]; simp⟩
  · cases (show u = Value.ref b from ry)
    obtain ⟨mB, J, _⟩ := ins_get I.hok hb
    obtain ⟨od, J, _⟩ := J.look
    exact ⟨_, J.type, by simp [PySem.W.notFirst]⟩
theorem op_eqOwn (F : FnOk X.prog X.w X.K X.mg X.base CX0 k f fd ps sp) (EC : EqC X.K C f) (hb : Binds X.K fd ps []) (hr : Room k X.A) : OpR X (compareOp .Eq) (rEqOwn X.K C sp) := by
  intro pins s σ H x y v u Q I rx ry h
  obtain ⟨a, dx, fs, rfl, ha, hk, hsp⟩ := h
  cases (show v = Value.ref a from rx)
  obtain ⟨mA, J, _⟩ := ins_get I.hok ha
  obtain ⟨od, J, _⟩ := J.look
  obtain ⟨m, hF⟩ := I.fr
  obtain ⟨tb, lk, nf⟩ := kd_look EC I ry hk
  refine PySem.W.cmp_K (op := .Eq) (tb := tb) hr.units0 hF I.ok.mod.kin J lk nf EC.hs EC.hf ?_
  refine wpAny_mono (own_call F hr rfl hb I (vs := [.ref a, y]) (us := [.ref a, u]) (.cons (show RelV (.ref a) (.ref a) from rfl) (.cons ry .nil)) hsp) (fun w s' q => ?_) fun _ _ e => e
  obtain ⟨z, H', I', rz, ⟨b, rfl⟩, q⟩ := q
  cases (show w = Value.bool b from rz)
  exact ⟨V.bl b, H', I', (show RelV (.bl b) (.bool b) from rfl), q⟩
theorem op_eqOwnR (F : FnOk X.prog X.w X.K X.mg X.base CX0 k f fd ps sp) (EC : EqC X.K C f) (hb : Binds X.K fd ps []) (hr : Room k X.A) : OpR X (compareOp .Eq) (rEqOwnR X.K C sp) := by
  intro pins s σ H x y v u Q I rx ry h
  obtain ⟨a, dx, fs, rfl, ha, hk, hsp⟩ := h
  cases (show u = Value.ref a from ry)
  obtain ⟨mA, J0, _⟩ := ins_get I.hok ha
  obtain ⟨od, J, _⟩ := J0.look
  obtain ⟨T, id, k⟩ := kd_ok EC I rx hk
  refine PySem.W.rc_own_r hr.units0 I.kIn J k.ty k.sl (k.ty.oneThing_none _ _) (fun Q' hq => k.dec a dx J0.obj _ Q' hq) k.n1 EC.hs EC.hf ?_
  refine wpAny_mono (own_call F hr rfl hb I (vs := [.ref a, x]) (us := [.ref a, v]) (.cons (show RelV (.ref a) (.ref a) from rfl) (.cons rx .nil)) hsp) (fun w s' q => ?_) fun _ _ e => e
  obtain ⟨z, H', I', rz, ⟨b, rfl⟩, q⟩ := q
  cases (show w = Value.bool b from rz)
  exact ⟨V.bl b, H', I', (show RelV (.bl b) (.bool b) from rfl), q⟩
theorem op_neOwn (F : FnOk X.prog X.w X.K X.mg X.base CX0 k f fd ps sp) (EC : EqC X.K C f) (hb : Binds X.K fd ps []) (hr : Room (k + 1) X.A) : OpR X (compareOp .NotEq) (rNeOwn X.K C sp) := by
  intro pins s σ H x y v u Q I rx ry h
  obtain ⟨a, dx, fs, rfl, ha, hk, hsp⟩ := h
  cases (show v = Value.ref a from rx)
  obtain ⟨mA, J, _⟩ := ins_get I.hok ha
  obtain ⟨od, J, _⟩ := J.look
  obtain ⟨tb, lk, nf⟩ := kd_look EC I ry hk
  refine PySem.W.rc_own_ne (Nat.lt_of_succ_lt hr.units2) I.kIn J lk nf EC.hne EC.hob EC.hs EC.hf ?_
  refine wpAny_mono (own_call F hr.in1 rfl hb I (vs := [.ref a, y]) (us := [.ref a, u]) (.cons (show RelV (.ref a) (.ref a) from rfl) (.cons ry .nil)) hsp) (fun w s' q => ?_) fun _ _ e => e
  obtain ⟨z, H', I', rz, b, rfl, q⟩ := q
  cases (show w = Value.bool b from rz)
  exact ⟨b, rfl, V.bl (!b), H', I', (show RelV (.bl (!b)) (.bool (!b)) from rfl), q⟩
theorem op_eqOwn_k {K : PySem.W.Frag} {mg : Str → Option Value} {base : Heap} (F : FnOk X.prog X.w K mg base CX0 k f fd ps sp) (EC : EqC K C f) (hb : Binds K fd ps []) (hr : Room k X.A) (h : X.K = K := by rfl) (h2 : X.mg = mg := by rfl) (h3 : X.base = base := by rfl) : OpR X (compareOp .Eq) (rEqOwn K C sp) := by
  subst h h2 h3
  exact op_eqOwn F EC hb hr
theorem op_eqOwnR_k {K : PySem.W.Frag} {mg : Str → Option Value} {base : Heap} (F : FnOk X.prog X.w K mg base CX0 k f fd ps sp) (EC : EqC K C f) (hb : Binds K fd ps []) (hr : Room k X.A) (h : X.K = K := by rfl) (h2 : X.mg = mg := by rfl) (h3 : X.base = base := by rfl) : OpR X (compareOp .Eq) (rEqOwnR K C sp) := by
  subst h h2 h3
  exact op_eqOwnR F EC hb hr
theorem op_neOwn_k {K : PySem.W.Frag} {mg : Str → Option Value} {base : Heap} (F : FnOk X.prog X.w K mg base CX0 k f fd ps sp) (EC : EqC K C f) (hb : Binds K fd ps []) (hr : Room (k + 1) X.A) (h : X.K = K := by rfl) (h2 : X.mg = mg := by rfl) (h3 : X.base = base := by rfl) : OpR X (compareOp .NotEq) (rNeOwn K C sp) := by
  subst h h2 h3
  exact op_neOwn F EC hb hr
end
end Mi

set_option maxHeartbeats 2000000
namespace Mi
open PySem PySem.Spec PyProof.Rows L2 Evl
/-! ### C(k = v, ..): a new instance, all parameters by name, in the reverse order -/
def tMakeK (C : Addr) (sp : Sp) (t : TA) : TE := fun σ H Q => t σ H fun vs H1 => ∀ x dx, H1 x = none → H1 dx = none → dx ≠ x → sp (.ref x :: vs.reverse) (upd (upd H1 dx (.own x)) x (.ins C dx [])) (fun v H2 => v = .non ∧ Q (.ref x) H2) E0
/-- how __init__ binds its parameters, by name -/
def BindsK (fd : FuncData) (p0 : Str) (ps : List Str) : Prop := ∀ (s : Shared) (a : Value) (ws : List Value), ws.length = ps.length → BindsTo s fd ⟨[a], ps.reverse.zip ws⟩ ((p0 :: ps).zip (a :: ws.reverse))
section
variable {X : Cx} {k : Nat} {f C : Addr} {fd : FuncData} {p0 : Str} {ps : List Str} {sp : Sp} {x : Str} {p pos : Pos} {kws : List Keyword} {t : TA}
theorem pe_makeKR (M : Mk X.K C f) (F : FnOk X.prog X.w X.K X.mg X.base CX0 k f fd (p0 :: ps) sp) (hr : Room (k + 1) X.A) (hg : Gl X x) (hm : X.mg x = some (.ref C)) (hb : BindsK fd p0 ps) (hkw : PK X kws t)
    (hall : (backToKw pos (keywordEach kws X.env)).all (·.1.isSome) = true := by rfl) (hks : (backToKw pos (keywordEach kws X.env)).filterMap (·.1) = ps.reverse := by rfl) (hpl : (backToKw pos (keywordEach kws X.env)).any (·.1.isNone) = false := by rfl)
    (hdb : (x == ("__debug__" : Str)) = false := by decide) : PE X (.Call (.Name x p) [] kws pos) (tMakeK C sp t) := by
  refine ⟨fun pins s0 σ H Q I0 h => wpAny_Call_Name_kw (ld_glob I0 hg hm (PySem.W.callWith_KW0 (h₀ := X.base) I0.ok.mod.kin M.kp hall (thn (hkw.run pos pins s0 σ H _ I0 h) fun ws s ⟨zs, H2, I, rz, q2⟩ => ⟨I.kIn, ?_⟩) hpl) hdb)⟩
  rw [hks]
  have hq := q2 (s.heap.objs.size + 1) s.heap.objs.size (I.hok.fresh (Nat.le_succ _)) (I.hok.fresh (Nat.le_refl _)) (Nat.ne_of_lt (Nat.lt_succ_self _))
  have I2 := Inv.made (C := C) I
  have r2 : Vals (V.ref (s.heap.objs.size + 1) :: zs.reverse) (Value.ref (s.heap.objs.size + 1) :: ws.reverse) := .cons rfl rz.reverse
  have hl := F.len _ _ _ _ hq
  have hw : ws.length = ps.length := by
    rw [← rz.length]
    simpa using hl
  refine wpAny_call (make_map (f := f) I.kIn M.makes M.init (beq_iff_eq.mp M.fn) (codeAny_mono (F.run _ X.stack _ _ ⟨Value.ref (s.heap.objs.size + 1) :: [], ps.reverse.zip ws⟩ (Value.ref (s.heap.objs.size + 1) :: ws.reverse) _ _ E0 (hr.make C [] (ps.reverse.zip ws))
    (I2.env0.make C [] (ps.reverse.zip ws)) (hb _ _ ws hw) r2 hq) fun r s' hq' => ?_))
  cases r with
  | error e => exact pass0 pins σ _ _ e s' I2 hq'
  | ok fl =>
    cases fl with
    | ret u =>
      obtain ⟨v, H', I3, rv, ev, q3⟩ := I2.after hq'
      subst ev
      exact ⟨rv, ⟨V.ref (s.heap.objs.size + 1), H', I3, rfl, q3⟩⟩
    | next => exact False.elim hq'
    | brk => exact False.elim hq'
    | cont => exact False.elim hq'
end
end Mi

set_option maxHeartbeats 2000000
namespace Mi
open PySem PySem.Spec PyProof.Rows L2 Evl
/-! ### own exceptions as values: made, read, asked for their class -/
def tMkE (C : Addr) (sp : Sp) (ta : TA) : TE := fun σ H Q => ta σ H fun vs H1 => vs.length ≤ 1000 ∧ ∀ a, H1 a = none → sp (.ref a :: vs) (upd H1 a (exo a C none)) (fun v H2 => v = .non ∧ Q (.ref a) H2) (fun _ _ _ => False)
theorem pe_mkE {X : Cx} {x : Str} {e : Expr} {es : List Expr} {ta : TA} {p pos : Pos} {C fI : Addr} {k : Nat} {fd : FuncData} {ps : List Str} {sp : Sp} (T : OexC X.K C) (iC : PySem.W.findIn X.K (.ref C) "__init__" = some (some (.ref fI))) (tI : PySem.W.typeIn X.K (.ref fI) = some (.type "function"))
    (F1 : FnOk X.prog X.w X.K X.mg X.base CX0 k fI fd ps sp) (hr : Room (k + 1) X.A) (hb : Binds X.K fd ps []) (hm : X.mg x = some (.ref C)) (ha : PA X (e :: es) ta) (hg : Gl X x := by rfl)
    (hdb : (x == ("__debug__" : Str)) = false := by decide) (he : starEach (e :: es) X.env = (false, eval e X.env) :: starEach es X.env := by rfl) (hpl : (backTo pos (starEach es X.env)).any (·.1) = false := by rfl) :
    PE X (.Call (.Name x p) (e :: es) [] pos) (tMkE C sp ta) := by
  obtain ⟨nm, q, N, bs, bm, sn, sub, ab, col, dd, k0, k1, k2, k3, k5, hC, hbm⟩ := T.cls
  refine ⟨fun pins s σ H Q I h => ?_⟩
  refine wpAny_Call_Name_kw (ld_glob I hg hm (PySem.W.callWith_K (h₀ := X.base) I.ok.mod.kin T.kC (thn (ha.run pos pins s σ H _ I h) fun us s1 ⟨vs, H1, I1, r1, hz, q1⟩ => ⟨I1.kIn, ?_⟩) he hpl) hdb)
  obtain ⟨hp, g, dr, tk, os⟩ := s1
  have hsz : hp.objs.size ≤ hp.objs.size + 1 := Nat.le_succ _
  have hq := q1 (hp.objs.size + 1) (I1.hok.fresh hsz)
  have kk : ∀ b o, hp.get? b = some o → ((hp.push (PySem.W.kdv_tup us)).push (PySem.HandSPX.excO C hp.objs.size)).get? b = some o := fun b o e => Heap.get?_push_of_some _ (Heap.get?_push_of_some _ e)
  have hget : ((hp.push (PySem.W.kdv_tup us)).push (PySem.HandSPX.excO C hp.objs.size)).get? (hp.objs.size + 1) = some (PySem.HandSPX.excO C hp.objs.size) := by heap_get
  have I2 := I1.laid (t' := tk) (a := hp.objs.size + 1) (o := exo (hp.objs.size + 1) C none) (h' := (hp.push (PySem.W.kdv_tup us)).push (PySem.HandSPX.excO C hp.objs.size)) kk hsz (exo_ok hget)
  have r2 : Vals (V.ref (hp.objs.size + 1) :: vs) (Value.ref (hp.objs.size + 1) :: us) := .cons rfl r1
  have hl : (Value.ref (hp.objs.size + 1) :: us ++ []).length = ps.length := by
    have e := r2.length
    rw [F1.len _ _ _ _ hq] at e
    rw [List.append_nil]
    exact e.symm
  have hus : us.length ≤ sizeLine := by rw [← Paired.length r1, sizeLine_eq]; omega
  have b2 := hb _ (Value.ref (hp.objs.size + 1) :: us) I2.kIn hl
  rw [List.append_nil] at b2
  refine wpAny_call (PySem.HandSPX.call_own F.excBase_ValueError (fun Y => PySem.HandSPX.refsVE_contains Y bm hbm) (I1.kIn _ _ hC) (PySem.W.looks_findIn I1.kIn iC) (fun self => PySem.W.bind_fn I1.kIn self tI) hus
    (codeAny_mono (F1.run _ X.stack _ _ ⟨Value.ref (hp.objs.size + 1) :: us, []⟩ (Value.ref (hp.objs.size + 1) :: us) _ _ (fun _ _ _ => False) (hr.make C us []) (I2.env0.make C us []) b2 r2 hq) fun r s' hq' => by
      match r, hq' with
      | .error er, hq' => exact hq'.elim
      | .ok .next, hq' => exact hq'.elim
      | .ok .brk, hq' => exact hq'.elim
      | .ok .cont, hq' => exact hq'.elim
      | .ok (.ret u), hq' =>
        obtain ⟨v, H', I3, rv, ev, q3⟩ := I2.after hq'
        subst ev
        exact ⟨rv, ⟨V.ref (hp.objs.size + 1), H', I3, rfl, q3⟩⟩))
/-- C(), C without an __init__ of its own -/
def tMkE0 (C : Addr) : TE := fun σ H Q => ∀ a, H a = none → Q (.ref a) (upd H a (exo a C none))
theorem pe_mkE0 {X : Cx} {C : Addr} {bmB : List Value} {B newId initId : String} {x : Str} {p pos : Pos} (F : ExcBaseFacts B newId initId bmB) (q : PySem.W.excIn X.K C bmB newId = true) (gC : X.mg x = some (.ref C)) (kC : PySem.W.keepIn X.K (.ref C) = true) (hg : Gl X x := by rfl)
    (hdb : (x == ("__debug__" : Str)) = false := by decide) : PE X (.Call (.Name x p) [] [] pos) (tMkE0 C) := by
  refine ⟨fun pins s σ H Q I h => ?_⟩
  refine wpAny_Call_Name_kw (ld_glob I hg gC ?_ hdb)
  refine PySem.W.callWith_K0 I.kIn kC ?_
  obtain ⟨bm, N, nm, qn, bs, hdct, sn, sub, ab, col, dd, k0, k1, k2, k3, k5, mN, hC, hN, hni, T⟩ := exc_obj I.kIn q
  refine wpAny_call_exc_subT F T hC hN hni (fun h' a hm => ?_) (Nat.zero_le _)
  have hn : H a = none := I.hok.gone hm.new
  obtain ⟨t, ht, _, _⟩ := hm.there
  exact ⟨.ref a, upd H a (exo a C none), I.laidN hm.keeps hm.new hn (exo_ok ht), rfl, h a hn⟩
/-- e.n, e an exception as a value -/
def tXv (K : PySem.W.Frag) (n : Str) (te : TE) : TE := fun σ H Q => te σ H fun x H1 => ∃ (a C dx : Addr) (fs : List (Str × V)) (v : V), x = .ref a ∧ H1 a = some (exo a C (some dx)) ∧ H1 dx = some (exd dx fs) ∧ XfC K C ∧ PySem.W.findIn K (.ref C) n = some none ∧ fs.lookup n = some v ∧ Q v H1
theorem pe_xv {X : Cx} {e : Expr} {te : TE} {pos : Pos} {n : Str} (he : PE X e te) (hb : attributeBase e n X.env (eval e X.env) = eval e X.env := by rfl) : PE X (.Attribute e n pos) (tXv X.K n te) := by
  refine ⟨fun pins s σ H Q I h => ?_⟩
  refine attr_of hb (thn (he.run pins s σ H _ I h) fun u s1 hh => ?_)
  obtain ⟨x, H1, I1, rx, a, C, dx, fs, v, rfl, ea, ed, T, hno, l, q⟩ := hh
  obtain rfl : u = Value.ref a := rx
  obtain ⟨t1, ho⟩ := exo_at I1.hok ea
  obtain ⟨mA, hns, rel⟩ := exd_at I1.hok ed
  obtain ⟨od, hd, hl⟩ := lookIn_ns hns
  obtain ⟨u, hu, ru⟩ := RelO.some_of (v := v) (o := mA n) (by rw [← l]; exact rel n)
  have J : PySem.W.InstAt s1.heap a _ C (some od) := ⟨ho, rfl, rfl, hd⟩
  exact HandSPX.exc_get I1.kIn J T.ga T.gg T.exC (PySem.W.findObj_own T.hdC hno rfl (by rw [hl, hu])) (handed_of ru) ⟨v, H1, I1.tok _, ru, q⟩
theorem pe_xv_k {X : Cx} {K : PySem.W.Frag} {e : Expr} {te : TE} {pos : Pos} {n : Str} (he : PE X e te) (hb : attributeBase e n X.env (eval e X.env) = eval e X.env := by rfl) (h : X.K = K := by rfl) : PE X (.Attribute e n pos) (tXv K n te) := h ▸ pe_xv he hb
/-- isinstance(e, c), e an exception as a value -/
def rIsV (K : PySem.W.Frag) : List V → Hp → VK → Prop := fun xs H Q => ∃ (a D : Addr) (d : Option Addr) (c : V) (cv : Value) (b : Bool), xs = [.ref a, c] ∧ H a = some (exo a D d) ∧ (∀ dx, d = some dx → ∃ fs, H dx = some (exd dx fs)) ∧ ExdC K D ∧ (∀ u, RelV c u → u = cv) ∧ PySem.W.kitOne K (.ref D) cv = some b ∧ Q (.bl b) H
theorem call_isV {X : Cx} {K : PySem.W.Frag} (h : X.K = K := by rfl) : CallR X (.builtin "isinstance") (rIsV K) := by
  subst h
  rintro pins s σ H xs us Q I r ⟨a, D, d, c, cv, b, rfl, ea, ed, C, hcv, e, q⟩
  obtain ⟨u1, u2, rfl, ru1, ru2⟩ := vals2 r
  obtain rfl : u1 = Value.ref a := ru1
  obtain rfl := hcv _ ru2
  obtain ⟨t1, ho⟩ := exo_at I.hok ea
  have J : ∃ ox od, PySem.W.InstAt s.heap a ox D od := by
    cases d with
    | none => exact ⟨_, none, ho, rfl, rfl, trivial⟩
    | some dx =>
      obtain ⟨fs, hd⟩ := ed dx rfl
      obtain ⟨mA, hns, rel⟩ := exd_at I.hok hd
      obtain ⟨od, hd2, _⟩ := lookIn_ns hns
      exact ⟨_, some od, ho, rfl, rfl, hd2⟩
  obtain ⟨ox, od, J⟩ := J
  exact PySem.W.kia_one (PySem.W.kitx_exc C.hcl C.hga C.hgt C.hsub C.ha C.hn C.ht C.hm) I.kIn J e (fun z => nomatch z) fun tk => ⟨.bl b, H, I.kept (t' := tk) fun _ _ z => z, rfl, q⟩
/-! ### what such a value is -/
def Flds (K : PySem.W.Frag) (H : Hp) (fs : List (Str × V)) (fl : List Str) (ds : List Dd) : Prop := ∀ (i : Nat) (f : Str) (d : Dd), fl[i]? = some f → ds[i]? = some d → ∃ v, fs.lookup f = some v ∧ Is K H d v
theorem Flds.mono {K : PySem.W.Frag} {H H' : Hp} {fs : List (Str × V)} {fl : List Str} {ds : List Dd} (e : Ex H H') (h : Flds K H fs fl ds) : Flds K H' fs fl ds := fun i f d h1 h2 => by
  obtain ⟨v, l, z⟩ := h i f d h1 h2
  exact ⟨v, l, z.mono e⟩
def exV (K : PySem.W.Frag) (C : Addr) (fl : List Str) (ds : List Dd) : MP where
  p := fun H v => ∃ a, v = .ref a ∧ ((fl = [] ∧ H a = some (exo a C none)) ∨ ∃ (dx : Addr) (fs : List (Str × V)), H a = some (exo a C (some dx)) ∧ H dx = some (exd dx fs) ∧ Flds K H fs fl ds)
  m := fun e h => by
    obtain ⟨a, rfl, h⟩ := h
    refine ⟨a, rfl, ?_⟩
    rcases h with ⟨h1, h2⟩ | ⟨dx, fs, h1, h2, h3⟩
    · exact .inl ⟨h1, e _ _ h2⟩
    · exact .inr ⟨dx, fs, e _ _ h1, e _ _ h2, h3.mono e⟩
abbrev exD (K : PySem.W.Frag) (C : Addr) (fl : List Str) (ds : List Dd) : Dd := .P (exV K C fl ds)
/-- what an __init__ keeps -/
def spEx (K : PySem.W.Frag) (C : Addr) (fl : List Str) (ok : Dd → Prop) : Sp := fun vs A Q _ => ∃ (a : Addr) (ws : List V) (ds : List Dd) (G : Hp), vs = .ref a :: ws ∧ ds.length = fl.length ∧ Ex G A ∧ A a = some (exo a C none) ∧ G a = none ∧ IsAll K G ds ws ∧ (∀ d ∈ ds, ok d) ∧
  ∀ (G' A' : Hp) (dx : Addr) (fs : List (Str × V)), Ex G G' → Ex G' A' → (∀ b, A b ≠ none → G b = none → G' b = none) → (∀ b o, b ≠ a → A b = some o → A' b = some o) → A dx = none → G' dx = none → A' a = some (exo a C (some dx)) → A' dx = some (exd dx fs) → Flds K G' fs fl ds → Q .non A'
section
variable {K : PySem.W.Frag} {σ : L2.St} {G H : Hp} {te tc : TE} {tr : TA} {C : Addr} {fl : List Str} {ds : List Dd} {ok : Dd → Prop}
theorem ef_mkE (h : Efa K tr σ G ds) (hl : ds.length = fl.length) (hl2 : fl.length ≤ 1000) (hok : ∀ d ∈ ds, ok d) : Ef K (tMkE C (spEx K C fl ok) tr) σ G (exD K C fl ds) := fun G1 A e1 e2 Q q =>
  h G1 A e1 e2 _ fun vs G2 A2 s z => by
    refine ⟨by rw [← z.len]; omega, fun a ha => ?_⟩
    have ga := ex_out s.v ha
    refine ⟨a, vs, ds, G2, rfl, hl, s.v.trans (Ex.new ha), upd_same, ga, z, hok, fun G' A' dx fs eg ev hf hk hdx gdx ea ed hF => ⟨rfl, ?_⟩⟩
    have hda : dx ≠ a := fun z => by rw [z, upd_same] at hdx; cases hdx
    have ga' : G' a = none := hf a (by rw [upd_same]; simp) ga
    refine q _ (upd (upd G' dx (exd dx fs)) a (exo a C (some dx))) A' (s.trans ⟨?_, ?_, ?_, ?_⟩) ⟨a, rfl, .inr ⟨dx, fs, upd_same, by rw [upd_ne hda, upd_same], hF.mono ?_⟩⟩
    · exact eg.trans ((Ex.new gdx).trans (Ex.new (by rw [upd_ne (Ne.symm hda)]; exact ga')))
    · intro b o hb
      by_cases q1 : b = a
      · rw [q1, upd_same] at hb; rw [q1, ea]; exact hb
      · rw [upd_ne q1] at hb
        by_cases q2 : b = dx
        · rw [q2, upd_same] at hb; rw [q2, ed]; exact hb
        · rw [upd_ne q2] at hb; exact ev b o hb
    · intro b o hb
      have nb : b ≠ a := fun z => by rw [z, ha] at hb; cases hb
      exact hk b o nb (by rw [upd_ne nb]; exact hb)
    · intro b hb hg
      have nb : b ≠ a := fun z => hb (by rw [z]; exact ha)
      have nd : b ≠ dx := fun z => hb (by rw [z]; rw [upd_ne hda] at hdx; exact hdx)
      rw [upd_ne nb, upd_ne nd]
      exact hf b (by rw [upd_ne nb]; exact hb) hg
    · exact (Ex.new gdx).trans (Ex.new (by rw [upd_ne (Ne.symm hda)]; exact ga'))
theorem ef_mkE0 : Ef K (tMkE0 C) σ G (exD K C [] ds) := fun G1 A e1 e2 Q q a ha => q _ _ _ (Step.new e2 ha) ⟨a, rfl, .inl ⟨rfl, upd_same⟩⟩
theorem exD_nil {v : V} {es : List Dd} (h : Is K H (exD K C [] ds) v) : Is K H (exD K C [] es) v := by
  obtain ⟨a, rfl, h⟩ := h
  refine ⟨a, rfl, ?_⟩
  rcases h with ⟨_, h2⟩ | ⟨dx, fs, h1, h2, h3⟩
  · exact .inl ⟨rfl, h2⟩
  · exact .inr ⟨dx, fs, h1, h2, fun i f d z => by simp at z⟩
theorem er_isV {c : V} {b : Bool} (cv : Value) (he : Er K te σ H (exD K C fl ds)) (hc : Er K tc σ H (.v c)) (xd : ExdC K C) (hcv : ∀ u, RelV c u → u = cv) (hk : PySem.W.kitOne K (.ref C) cv = some b) :
    Er K (tCB (rIsV K) (tCons te (tCons tc tNil))) σ H (.b b) := fun H1 e Q q =>
  he H1 e _ fun v H2 x2 z => hc H2 (e.trans x2) _ fun u H3 x3 z2 => by
    obtain ⟨a, rfl, z⟩ := (z : (exV K C fl ds).p H2 v)
    obtain rfl : u = c := z2
    rcases z with ⟨_, z⟩ | ⟨dx, fs, z1, z3, _⟩
    · exact ⟨a, C, none, _, cv, b, rfl, x3 _ _ z, (fun dx h => nomatch h), xd, hcv, hk, q _ H3 (x2.trans x3) rfl⟩
    · exact ⟨a, C, some dx, _, cv, b, rfl, x3 _ _ z1, (fun dx2 h => by cases h; exact ⟨fs, x3 _ _ z3⟩), xd, hcv, hk, q _ H3 (x2.trans x3) rfl⟩
theorem er_xv {n : Str} {i : Nat} {d : Dd} (he : Er K te σ H (exD K C fl ds)) (hi : fl[i]? = some n) (hd : ds[i]? = some d) (T : XfC K C) (hno : PySem.W.findIn K (.ref C) n = some none) : Er K (tXv K n te) σ H d := fun H1 e Q q =>
  he H1 e _ fun v H2 x2 z => by
    obtain ⟨a, rfl, z⟩ := (z : (exV K C fl ds).p H2 v)
    rcases z with ⟨z0, z⟩ | ⟨dx, fs, z1, z3, hF⟩
    · rw [z0] at hi; simp at hi
    · obtain ⟨v, l, hv⟩ := hF i n d hi hd
      exact ⟨a, C, dx, fs, v, rfl, z1, z3, T, hno, l, q v H2 x2 hv⟩
/-- raise C(e, ..) -/
theorem x_mkE {W : XK} (h : Era K tr σ H ds) (hl : ds.length = fl.length) (hl2 : fl.length ≤ 1000) (hok : ∀ d ∈ ds, ok d) (hw : ∀ d fs H', Ex H H' → H' d = some (.xd fs) → W (.ref C) (some d) H') : tMkO C (spEx K C fl ok) [] tr σ H W :=
  h H (Ex.refl H) _ fun vs H1 e1 z => by
    refine ⟨by rw [← z.len]; omega, fun a ha => ?_⟩
    rw [List.append_nil]
    refine ⟨a, vs, ds, H1, rfl, hl, Ex.new ha, upd_same, ha, z, hok, fun G' A' dx fs eg ev hf hk hdx gdx ea ed hF => ⟨rfl, dx, fs, ea, ed, ex_out eg gdx, ?_⟩⟩
    refine hw dx fs _ ?_ upd_same
    intro b o hb
    have hb := e1 b o hb
    have nb : b ≠ a := fun z => by rw [z, ha] at hb; cases hb
    have nd : b ≠ dx := fun z => by rw [z, ex_out eg gdx] at hb; cases hb
    rw [upd_ne nd, del_ne nb]
    exact hk b o nb (by rw [upd_ne nb]; exact hb)
end
/-! ### defs called in an except suite with the exception in hand -/
structure FnHp (P : Program) (w : World) (K : PySem.W.Frag) (mg : Str → Option Value) (base : Heap) (k : Nat) (p : Addr × Obj) (f : Addr) (fd : FuncData) (ps : List Str) (sp : Sp) : Prop where
  len : ∀ vs H Q E, sp vs H Q E → vs.length = ps.length
  run : ∀ (A : Around) (outer : List Env) (s : Shared) (H : Hp) (a : Args) (us : List Value) (vs : List V) (Q : VK), L2H.RoomH k A → L2H.Hot1 A p → L2H.PinOk outer H s p → Env0 P w K mg base A outer s H → BindsTo s fd a (ps.zip us) → Vals vs us → sp vs H Q (fun _ _ _ => False) →
    codeAny (model P w) A (.call (.ref f) a) (CR CX0 outer P w H s Q (fun _ _ _ => False)) s
structure HasHp (P : Program) (w : World) (K : PySem.W.Frag) (mg : Str → Option Value) (base : Heap) (k : Nat) (p : Addr × Obj) (x : Str) (ps : List Str) (sp : Sp) : Prop where
  ex : ∃ f fd, mg x = some (.ref f) ∧ PySem.W.keepIn K (.ref f) = true ∧ FnHp P w K mg base k p f fd ps sp ∧ Binds K fd ps []
theorem Fun.okHp {P : Program} {w : World} {K : PySem.W.Frag} {mg : Str → Option Value} {base : Heap} {x qual : Str} {st : Stmt} {f : Addr} {fd : FuncData} {N ps : List Str} {k : Nat} {sp : Sp} {p : Addr × Obj} (F : Fun K x qual st f fd) (Sc : FnScope N ps (defScope st)) (hl : ∀ vs H Q E, sp vs H Q E → vs.length = ps.length)
    (hb : ∀ (cdv : Value) (A : Around) (outer : List Env) (s : Shared) (H : Hp) (vs : List V) (Q : VK), L2H.Hot1 A p → L2H.RoomH k (A.deeper (envOfC qual (defScope st) s.heap.objs.size f cdv)) → sp vs H Q (fun _ _ _ => False) →
      ∃ t, PSs (L2H.cxH CX0 P w K mg base N qual (defScope st) f cdv A outer s H (fun _ _ _ => False) p) (defBody st) t ∧ t { nx := fun _ H' => Q .non H', rt := Q } (start N vs) H) : FnHp P w K mg base (k + 1) p f fd ps sp := by
  obtain ⟨oc, od, kV, doc, pm, an, cdv, ct, osl, rfl, lk, hcd⟩ := F.ex
  refine ⟨hl, fun A outer s H a us vs Q hr hot hpin e0 hbd r hsp => ?_⟩
  have hn := hl _ _ _ _ hsp
  have KX : K.In s.heap := e0.mod.kin.keeps fun b o e => (e0.bs b o e).1
  have kinds : ∀ y ∈ ps.zip us, (defScope st).names.lookup y.1 = some .local ∨ ((defScope st).names.lookup y.1 = some .cell ∧ ((cellsFrom (s.heap.objs.size + 1) (defScope st).names []).lookup y.1).isSome = true) := fun y hy =>
    (Sc.par y.1 (List.of_mem_zip (show (y.1, y.2) ∈ ps.zip us from hy)).1).imp id fun q => ⟨q, PySem.W.cellsFrom_some _ _ _ (.inl q)⟩
  refine codeAny_call_function hr.depth (KX _ _ lk) rfl Sc.co Sc.gen rfl (PySem.W.codeRec_of KX hcd) (hbd _ _ _ _ (wpAny_newFunctionEnv_cells Sc.kind kinds fun env he s1 x => ?_))
  subst he
  obtain ⟨t, ht, hq⟩ := hb cdv A outer s H vs Q hot (hr.deeper _) hsp
  have I := L2H.inv_startH (CX := CX0) (E := fun _ _ _ => False) Sc hpin e0 hn r x
  refine ⟨(e0.mod.nolimit.keeps fun b o e => (e0.bs b o e).1).keeps x.toInCall.keep, codeAny_func (wpAny_mono (ht.run [] s1 (L2.start N vs) H _ I hq) (fun fl s' hs => ?_) fun e s' hs => hs)⟩
  match fl, hs with
  | .ret u, hs => obtain ⟨v, σ', H', J, rv, q⟩ := hs; exact ⟨v, H', J.os, J.bare, J.base, J.hok, rv, q⟩
  | .next, hs => obtain ⟨σ', H', J, q⟩ := hs; exact ⟨V.non, H', J.os, J.bare, J.base, J.hok, rfl, q⟩
  | .brk, hs => obtain ⟨_, _, _, q⟩ := hs; exact q.elim
  | .cont, hs => obtain ⟨_, _, _, q⟩ := hs; exact q.elim
theorem At.hasHp {P : Program} {w : World} {K : PySem.W.Frag} {mg : Str → Option Value} {base : Heap} {x : Str} {st : Stmt} {ps : List Str} {k : Nat} {sp : Sp} {p : Addr × Obj} (h : At K mg x st ps) (hf : ∀ {f fd}, Fun K x x st f fd → FnHp P w K mg base k p f fd ps sp) : HasHp P w K mg base k p x ps sp := by
  obtain ⟨f, fd, hm, F, b0, _⟩ := h.ex
  exact ⟨f, fd, hm, F.kp, hf F, b0⟩
theorem pe_callHp {X : Cx} {k : Nat} {x : Str} {ps : List Str} {sp : Sp} {q pos : Pos} {e : Expr} {es : List Expr} {t : TA} {p : Addr × Obj} (F : HasHp X.prog X.w X.K X.mg X.base k p x ps sp) (hr : L2H.RoomH k X.A) (hot : L2H.Hot1 X.A p) (hp : p ∈ X.pn) (ha : PA X (e :: es) t) (hg : Gl X x := by rfl) (hdb : (x == ("__debug__" : Str)) = false := by decide)
    (he : starEach (e :: es) X.env = (false, eval e X.env) :: starEach es X.env := by rfl) (hpl : (backTo pos (starEach es X.env)).any (·.1) = false := by rfl) : PE X (.Call (.Name x q) (e :: es) [] pos) (tCallS sp (fun _ => E0) t) := by
  obtain ⟨f, fd, hm, hk, F, hb⟩ := F.ex
  refine ⟨fun pins s σ H Q I h => ?_⟩
  refine wpAny_Call_Name_kw (ld_glob I hg hm ?_ hdb)
  refine PySem.W.callWith_K (h₀ := X.base) I.ok.mod.kin hk (thn (ha.run pos pins s σ H _ I h) fun us s1 ⟨vs, H1, I1, r, w⟩ => ⟨I1.kIn, ?_⟩) he hpl
  have hl : (us ++ []).length = ps.length := by rw [List.append_nil, ← r.length]; exact F.len _ _ _ _ w
  have b := hb s1 us I1.kIn hl
  rw [List.append_nil] at b
  obtain ⟨P1, P2, P3, P4, P5⟩ := I1.pin p (List.mem_append_left _ hp)
  refine wpAny_call (codeAny_mono (F.run X.A X.stack s1 H1 ⟨us, []⟩ us vs Q hr hot ⟨P1, P2, fun hm => (List.mem_cons.mp (I1.stkSub p.1 hm)).elim P3 P4, P5⟩ I1.env0 b r w) fun r s' hq => ?_)
  match r, hq with
  | .error e, hq => exact hq.elim
  | .ok .next, hq => exact hq.elim
  | .ok .brk, hq => exact hq.elim
  | .ok .cont, hq => exact hq.elim
  | .ok (.ret u), hq => exact I1.after hq
/-- isinstance(e, c), e the exception in hand, here or in a def called there -/
def rIsP (K : PySem.W.Frag) (a : Addr) (cls : Value) (d : Option Addr) : List V → Hp → VK → Prop := fun xs H Q => ∃ (D : Addr) (c : V) (cv : Value) (b : Bool), xs = [.ref a, c] ∧ cls = .ref D ∧ (∀ dx, d = some dx → ∃ fs, H dx = some (.xd fs)) ∧ ExdC K D ∧ (∀ u, RelV c u → u = cv) ∧ PySem.W.kitOne K (.ref D) cv = some b ∧ Q (.bl b) H
theorem call_isP {X : Cx} {K : PySem.W.Frag} {p : Addr × Obj} {cls : Value} {d : Option Addr} (hp : p ∈ X.pn) (hz : Zc cls d p.2) (hf : ∃ vs, p.2.data = .fields vs) (h : X.K = K := by rfl) : CallR X (.builtin "isinstance") (rIsP K p.1 cls d) := by
  subst h
  rintro pins s σ H xs us Q I r ⟨D, c, cv, b, rfl, rfl, ed, C, hcv, e, q⟩
  obtain ⟨u1, u2, rfl, ru1, ru2⟩ := vals2 r
  obtain rfl : u1 = Value.ref p.1 := ru1
  obtain rfl := hcv _ ru2
  obtain ⟨hget, _⟩ := I.pin p (List.mem_append_left _ hp)
  obtain ⟨vs, hv⟩ := hf
  obtain ⟨h1, h2⟩ := hz
  have J : ∃ od, PySem.W.InstAt s.heap p.1 p.2 D od := by
    cases d with
    | none => exact ⟨none, hget, h1, by unfold PySem.W.notCls; rw [hv] <;> rfl, by rw [h2]; exact trivial⟩
    | some dx =>
      obtain ⟨fs, hd⟩ := ed dx rfl
      obtain ⟨mA, hns, _⟩ := (show ObjOk X.prog X.w H s.heap dx (.xd fs) from I.hok dx _ hd)
      obtain ⟨od, ho, _⟩ := lookIn_ns hns
      exact ⟨some od, hget, h1, by unfold PySem.W.notCls; rw [hv] <;> rfl, by rw [h2]; exact ho⟩
  obtain ⟨od, J⟩ := J
  exact PySem.W.kia_one (PySem.W.kitx_exc C.hcl C.hga C.hgt C.hsub C.ha C.hn C.ht C.hm) I.kIn J e (fun z => nomatch z) fun tk => ⟨.bl b, H, I.kept (t' := tk) fun _ _ z => z, rfl, q⟩
theorem er_isP {K : PySem.W.Frag} {σ : L2.St} {H : Hp} {te tc : TE} {a D : Addr} {cls : Value} {d : Option Addr} {c : V} {b : Bool} (cv : Value) (he : Er K te σ H (.v (.ref a))) (hc : Er K tc σ H (.v c)) (e1 : cls = .ref D) (hd : ∀ dx, d = some dx → ∃ fs, H dx = some (.xd fs)) (C : ExdC K D) (hcv : ∀ u, RelV c u → u = cv) (hk : PySem.W.kitOne K (.ref D) cv = some b) :
    Er K (tCB (rIsP K a cls d) (tCons te (tCons tc tNil))) σ H (.b b) := fun H1 e Q q =>
  he H1 e _ fun v H2 x2 z => hc H2 (e.trans x2) _ fun u H3 x3 z2 => by
    obtain rfl : v = .ref a := z
    obtain rfl : u = c := z2
    exact ⟨D, _, cv, b, rfl, e1, fun dx h => by obtain ⟨fs, z⟩ := hd dx h; exact ⟨fs, ((e.trans x2).trans x3) dx _ z⟩, C, hcv, hk, q _ H3 (x2.trans x3) rfl⟩
end Mi

set_option maxHeartbeats 2000000
namespace Mi
open PySem PySem.Spec PyProof.Rows L2 Evl
/-! ### a comprehension within an except suite -/
abbrev bkH (X : Cx) (s : Shared) (H : Hp) (scope : Scope) (cenv : Env) (fp : List Addr) (p : Addr × Obj) : Cx := { X.blk s H scope cenv fp with pn := [p] }
theorem pe_lcH {X : Cx} {elt tg iter : Expr} {scope : Scope} {own : List (Str × Nat)} {pos : Pos} {wi : TI} {g : TG} {te : TE} {p : Addr × Obj} (hot : L2H.Hot1 X.A p) (hp : p ∈ X.pn) (hN : X.N.Nodup) (hi : L2H.PIH X tg iter wi) (ok : BlkOk X.N X.env.scope scope own)
    (hg : ∀ (s : Shared) (H : Hp) (C : Addr) (cl : List (Str × Addr)) (fp : List Addr), PG (bkH X s H scope (compEnvC scope cl C X.env) fp p) tg g)
    (he : ∀ (s : Shared) (H : Hp) (C : Addr) (cl : List (Str × Addr)) (fp : List Addr), PE (bkH X s H scope (compEnvC scope cl C X.env) fp p) elt te) (hs : ∀ x, foldedSetIterable iter X.env x = pure x := by intro _; rfl) :
    PE X (.ListComp elt [⟨tg, iter, [], 0⟩] scope pos) (tLc wi g tYes te (own.map (·.2))) := by
  refine ⟨fun pins s σ H Q I h => ?_⟩
  rw [eval_ListComp]
  have free : ∀ y ∈ scope.names, y.2 = .free → ∃ c, X.env.cells.lookup y.1 = some c := fun y hy e => (ok.free y hy e).elim (fun k => I.ok.has _ (.inl k)) fun k => I.ok.has _ (.inr k)
  refine wpAny_comprehension_free (use := none) rfl hs (closure_ok free) ok.kind (fun y hy e => by rw [ok.uniq y hy, e]) (thn (hi.run pins s σ H _ I h) fun xv s1 hx => thn hx fun itv s2 h2 => ?_)
  obtain ⟨it, fp, tn, J, H2, rfl, I2, T, st2, f2, q⟩ := h2
  refine wpAny_newObj_type (newEnv_comp ?_) (by show 0 ≤ sizeLine; decide)
  obtain ⟨D, hD⟩ : ∃ D, D = s2.heap.objs.size := ⟨_, rfl⟩
  have hDn : H2 D = none := I2.hok.fresh (by rw [hD]; exact Nat.le_refl _)
  obtain ⟨W, ⟨m0, w0⟩, turn⟩ := q D hDn
  obtain ⟨s3, hs3⟩ : ∃ s3 : Shared, s3 = { s2 with heap := s2.heap.push { cls := .type "list", data := .seq ([] : List Value).toArray } } := ⟨_, rfl⟩
  rw [← hs3]
  have e3 : s3.heap = s2.heap.push { cls := .type "list", data := .seq ([] : List Value).toArray } := by rw [hs3]
  have up3 : ∀ b o, s2.heap.get? b = some o → s3.heap.get? b = some o := fun b o z => by rw [e3]; exact Heap.get?_push_of_some _ z
  have I3 : Inv X pins σ (upd H2 D (.lst [])) s3 := by
    rw [hs3]
    refine I2.laid (t' := s2.toks) (fun b o z => Heap.get?_push_of_some _ z) (by rw [hD]; exact Nat.le_refl _) ⟨Nat.zero_le _, [], 0, .nil, ?_⟩
    rw [hD]
    exact Heap.get?_push_size _ rfl
  have f3 : ∀ b ∈ fp, FpOk X pins (upd H2 D (.lst [])) b ∧ b < s3.heap.objs.size := fun b hb => by
    obtain ⟨o, z, _⟩ := T.obj _ _ st2 b hb
    have hlt := Heap.lt_size z
    refine ⟨⟨?_, (f2 b hb).2⟩, by rw [e3, Heap.size_push]; exact Nat.lt_succ_of_lt hlt⟩
    rw [upd_ne (by rw [hD]; exact Nat.ne_of_lt hlt)]
    exact (f2 b hb).1
  have st3 : tn 0 s3.heap := T.keep _ _ _ st2 fun b _ o z => up3 b o z
  have I4 := block_start I3 ok hN f3
  rw [← hD]
  show codeAny _ _ (.compStart (.ListComp elt [⟨tg, iter, [], 0⟩] scope pos) 0 (.ref it) (.ref D) (compEnvC scope (cellsFrom (s3.heap.objs.size + 1) scope.names (cloFrom X.env.cells scope.names [])) s3.heap.objs.size X.env)) (compPost (model X.prog X.w) X.A X.xe none (EP X pins σ Q) (.ref D) s3.heap.objs.size) { s3 with heap := pushCells (s3.heap.push { cls := .type "dict", data := .dict #[] }) scope.names }
  have nfp : ∀ b ∈ fp, (upd H2 D (.lst [])) b = none := fun b hb => (f3 b hb).1.1
  have pg := hg s3 (upd H2 D (.lst [])) s3.heap.objs.size (cellsFrom (s3.heap.objs.size + 1) scope.names (cloFrom X.env.cells scope.names [])) fp
  have pe := he s3 (upd H2 D (.lst [])) s3.heap.objs.size (cellsFrom (s3.heap.objs.size + 1) scope.names (cloFrom X.env.cells scope.names [])) fp
  generalize hce : compEnvC scope (cellsFrom (s3.heap.objs.size + 1) scope.names (cloFrom X.env.cells scope.names [])) s3.heap.objs.size X.env = ce at I4 pg pe ⊢
  have cL : ce.locals = s3.heap.objs.size := by subst hce; rfl
  generalize hH3 : upd H2 D (.lst []) = H3 at I3 I4 pg pe w0 nfp f3
  obtain ⟨s4, hs4⟩ : ∃ s4 : Shared, s4 = { s3 with heap := pushCells (s3.heap.push { cls := .type "dict", data := .dict #[] }) scope.names } := ⟨_, rfl⟩
  rw [← hs4] at I4 ⊢
  have up4 : ∀ b o, s3.heap.get? b = some o → s4.heap.get? b = some o := fun b o z => by rw [hs4]; exact pushCells_keeps _ _ _ _ (Heap.get?_push_of_some _ z)
  have st4 : tn 0 s4.heap := T.keep _ _ _ st3 fun b _ o z => up4 b o z
  obtain ⟨P1, P2, P3, P4, P5⟩ := I3.pin p (List.mem_append_left _ hp)
  have J4 : Inv (bkH X s3 H3 scope ce fp p) [] (wipe σ (own.map (·.2))) H3 s4 := by
    refine ⟨⟨I4.ok.mod, I4.ok.kind, I4.ok.glob, I4.ok.blt, I4.ok.above, I4.ok.inj, I4.ok.has, I4.ok.cab, I4.ok.hd, I4.ok.frames, I4.ok.stk, I4.ok.exf, I4.ok.bs, I4.ok.bsz, I4.ok.noex, I4.ok.exfs, I4.ok.funs, I4.ok.frf⟩, I4.os, I4.bare, I4.base, I4.loc, I4.cell, I4.free, I4.freeC, fun q hq => ?_, I4.hok, I4.len⟩
    obtain rfl : q = p := by simpa using (show q ∈ [p] ++ ([] : List (Addr × Obj)) from hq)
    exact ⟨up4 _ _ P1, P2, by show q.1 ≠ ce.locals; rw [cL]; exact Nat.ne_of_lt (Heap.lt_size P1), fun hm => (List.mem_cons.mp (I3.stkSub q.1 hm)).elim P3 P4, P5⟩
  have hc : L2H.HotC (bkH X s3 H3 scope ce fp p) := ⟨p, hot, List.mem_singleton.mpr rfl⟩
  have stat : ∀ {σ' : L2.St} {H' : Hp} {s' : Shared}, Inv (bkH X s3 H3 scope ce fp p) [] σ' H' s' → (∀ b ∈ fp, H' b = none) → ∀ b ∈ fp, FpOk (bkH X s3 H3 scope ce fp p) [] H' b := fun {σ' H' s'} I' hn b hb =>
    ⟨hn b hb, (I'.ok.exf b hb).1, I'.ok.exfs b hb, .inl hb, fun x c z => (I'.ok.exf b hb).2 x c z, fun r hr => by
      obtain rfl : r = p := by simpa using (show r ∈ [p] ++ ([] : List (Addr × Obj)) from hr)
      exact (f3 b hb).1.2.2.2.2.2 r (List.mem_append_left _ hp)⟩
  have loop : codeAny (model X.prog X.w) X.A (.compLoop (.ListComp elt [⟨tg, iter, [], 0⟩] scope pos) 0 (.ref it) (.ref D) ce) (compPost (model X.prog X.w) X.A X.xe none (EP X pins σ Q) (.ref D) s3.heap.objs.size) s4 := by
    refine compLoop_any (fun n s' => ∃ i H', Inv (bkH X s3 H3 scope ce fp p) [] (wipe σ (own.map (·.2))) H' s' ∧ tn i s'.heap ∧ (∀ b ∈ fp, H' b = none) ∧ W i n H') ?_ m0 ⟨0, H3, J4, st4, nfp, w0⟩
    rintro n s5 ⟨i, H5, I5, st5, n5, w5⟩
    rcases turn i n H5 w5 with ⟨stop, qq⟩ | ⟨go, Nx, hNx, step⟩
    · refine thnF (T.done (bkH X s3 H3 scope ce fp p) rfl rfl rfl hc i [] s5 _ H5 (fun _ _ => False) I5 (stat I5 n5) st5 stop) fun r s6 ⟨hr, I6⟩ => ?_
      subst hr
      have I7 : Inv X pins σ H5 s6 := I3.call' (ch := fp) I6.os I6.base I6.hok I6.bare fun b hb => ⟨(f3 b hb).1.2.2.2.1, (f3 b hb).1.2.1, (f3 b hb).1.2.2.2.2.1, (f3 b hb).1.2.2.2.2.2⟩
      have nC : H5 s3.heap.objs.size = none := by rw [← cL]; exact I6.free
      obtain ⟨m, hn, _⟩ := I6.loc
      replace hn : s6.heap.Ns ce.locals m := hn
      rw [cL] at hn
      obtain ⟨y0, y1, y2, y3, y4, y5⟩ := I3.fpOk (Nat.le_refl _) nC
      exact ⟨m, hn, fun h'' sb => ⟨.ref D, H5, I7.turned (t' := s6.toks) (fun b o hb z => (sb.2 b hb).trans z) y0 y1 y3 y4 y5, rfl, qq⟩⟩
    · refine thnF (T.item (bkH X s3 H3 scope ce fp p) rfl rfl rfl hc i [] s5 _ H5 (fun _ _ => False) I5 (stat I5 n5) st5 go) fun r s6 ⟨u, hr, h6⟩ => ?_
      subst hr
      refine thnF h6 fun _ s7 ⟨x, H7, I7, r7, y7, st7, n7⟩ => ?_
      refine thnF (pg.run _ s7 _ H7 x u _ (I7.pinned (stat I7 n7) (T.obj _ _ st7)) r7 (step x H7 y7)) fun _ s8 ⟨σ8, H8, I8, hw8, q8⟩ => ?_
      refine wpAny_tests_nil ?_
      replace q8 : te σ8 H8 _ := q8
      refine thnF (pe.run _ s8 σ8 H8 _ I8 q8) fun z s10 ⟨yv, H10, I10, r10, acc, hD10, hz10, nx⟩ => ?_
      refine app_ok (X := bkH X s3 H3 scope ce fp p) I10 hD10 hz10 r10 fun s11 I11 => ?_
      obtain ⟨m', hm, w'⟩ := hNx _ nx
      have pin' : ∀ b ∈ fp, ∀ o, s7.heap.get? b = some o → s11.heap.get? b = some o ∧ _ = none := fun b hb o e =>
        let z := I11.pin (b, o) (List.mem_append_right _ (List.mem_append_right _ (mem_pinsAt hb e)))
        ⟨z.1, z.2.1⟩
      refine ⟨m', hm, i + 1, _, (I11.unpinned (pins := [])).weak (by rw [← hw8, wipe_length]) (fun j v e => ?_), T.keep _ _ _ st7 fun b hb o e => (pin' b hb o e).1, fun b hb => ?_, w'⟩
      · rw [← hw8] at e
        exact (wipe_some e).1
      · obtain ⟨o, e, _⟩ := T.obj _ _ st7 b hb
        exact (pin' b hb o e).2
  exact codeAny_compStart_list loop (T.self X.A 0 _ _ _ st4 loop)
end Mi

set_option maxHeartbeats 4000000
namespace Mi
open PySem PySem.Spec PyProof.Rows L2 Evl
local macro_rules | `(tactic| walk_at "side") => `(tactic| (first | assumption | omega | exact rfl | decide | (simp only [List.length_cons, List.length_nil, List.length_map, List.length_append, List.length_replicate] <;> omega)))
local macro_rules | `(tactic| walk_at "ro") => `(tactic| (first
  | with_reducible exact ro_I0
  | with_reducible exact ro_1018
  | with_reducible exact ro_neC
  | with_reducible exact ro_eqC
  | with_reducible exact ro_neI
  | with_reducible exact ro_eqI
  | with_reducible exact ro_neB
  | with_reducible exact ro_eqB
  | ((with_reducible apply ro_mod); (walk_at "side"))
  | ((with_reducible apply ro_div) <;> (walk_at "side"))
  | ((with_reducible apply ro_divW) <;> (walk_at "side"))
  | with_reducible exact ro_1012
  | with_reducible exact ro_1015
  | ((with_reducible apply ro_mulL) <;> (walk_at "side"))
  | ((with_reducible apply ro_mulR) <;> (walk_at "side"))
  | ((with_reducible apply ro_addC); (walk_at "side"))
  | ((with_reducible apply ro_ixC) <;> (walk_at "side"))
  | ((with_reducible apply ro_ixI) <;> (walk_at "side"))
  | ((with_reducible apply ro_ixIN) <;> (walk_at "side"))
  | ((with_reducible apply ro_ixT2) <;> (walk_at "side"))
  | ((with_reducible apply ro_ixG) <;> (walk_at "side"))
  | ((with_reducible apply ro_eq); exact rfl)
  | ((with_reducible apply ro_ne); exact rfl)
  | with_reducible exact ro_isN
  | with_reducible exact ro_notN
  | with_reducible exact ro_eqL
  | with_reducible exact ro_neL
  | with_reducible exact ro_eqU
  | ((with_reducible apply ro_cat); (walk_at "side"))
  | with_reducible exact ro_inLi
  | with_reducible exact ro_inNi
  | with_reducible exact ro_inUi
  | ((with_reducible apply ro_inL) <;> (walk_at "side"))
  | ((with_reducible apply ro_inN) <;> (walk_at "side"))
  | ((with_reducible apply ro_inU) <;> (walk_at "side"))))
local macro_rules | `(tactic| walk_at "rc") => `(tactic| (first
  | with_reducible exact rc_int
  | with_reducible exact rc_intB
  | with_reducible exact rc_max2
  | ((with_reducible apply rc_lenC); (walk_at "side"))
  | with_reducible exact rc_lenI
  | with_reducible exact rc_lenT
  | with_reducible exact rc_lenIN
  | with_reducible exact rc_lenTN
  | with_reducible exact rc_lenL
  | with_reducible exact rc_lenN
  | with_reducible exact rc_lenU
  | with_reducible exact rc_listL
  | with_reducible exact rc_listU
  | with_reducible exact rc_tupL
  | with_reducible exact rc_tupN
  | ((with_reducible apply rc_isi_int); decide +kernel)
  | ((with_reducible apply rc_isi_str); decide +kernel)
  | ((with_reducible apply rc_isi_bl); decide +kernel)
  | ((with_reducible apply rc_isi_non); decide +kernel)
  | ((with_reducible apply rc_isi_u); decide +kernel)
  | ((with_reducible apply rc_isi_l); decide +kernel)))
local macro_rules | `(tactic| walk_at "er") => `(tactic| (first
  | ((with_reducible apply er_var); (exact rfl); assumption)
  | ((with_reducible apply er_v); exact rfl)
  | with_reducible exact er_c
  | ((with_reducible apply er_pick); (walk_at "er"); (walk_at "er"); (walk_at "er"))
  | ((with_reducible apply er_op); (walk_at "er"); (walk_at "er"); (walk_at "ro"))
  | ((with_reducible apply er_cb); (walk_at "era"); (walk_at "rc"))
  | ((with_reducible apply er_lst'); (walk_at "era"); (exact rfl); (walk_at "side"))
  | ((with_reducible apply er_tup'); (walk_at "era"); (exact rfl); (walk_at "side"))
  | ((with_reducible apply er_notV); (walk_at "er"))
  | ((with_reducible apply er_andV); (walk_at "er"); (intro _; (walk_at "er")))
  | ((with_reducible apply er_orV); (walk_at "er"); (intro _; (walk_at "er")))
  | ((with_reducible apply er_ite); (walk_at "et"); (intro _; (walk_at "er")); (intro _; (walk_at "er")))))
local macro_rules | `(tactic| walk_at "era") => `(tactic| (first
  | with_reducible exact era_nil
  | ((with_reducible apply era_cons); (walk_at "er"); (walk_at "era"))))
local macro_rules | `(tactic| walk_at "et") => `(tactic| (first
  | ((with_reducible apply et_an); (walk_at "et"); (intro _; (walk_at "et")))
  | ((with_reducible apply et_orr); (walk_at "et"); (intro _; (walk_at "et")))
  | ((with_reducible apply et_nt); (walk_at "et"))
  | ((with_reducible apply et1); (walk_at "er"))
  | ((with_reducible apply et2); (walk_at "er"))))

def topS (i : Nat) : Stmt := PySem.Challenge.pw_stampsheets_k06_errors_kept.main.body.getD i (.Pass ⟨0, 0, 0, 0⟩)
def letters : List Nat := [97, 98, 99, 100, 101, 102, 103, 104, 105, 106, 107, 108, 109, 110, 111, 112, 113, 114, 115, 116, 117, 118, 119, 120, 121, 122]
def alls : List Nat := 46 :: letters
def signs : List Nat := 45 :: alls
def digits : List Nat := [48, 49, 50, 51, 52, 53, 54, 55, 56, 57]
/-- what the top leaves of the names that the defs read -/
structure Txt (K : PySem.W.Frag) (mg : Str → Option Value) : Prop where
  b_len : mg "len" = none
  b_int : mg "int" = none
  b_bool : mg "bool" = none
  b_str : mg "str" = none
  b_tuple : mg "tuple" = none
  b_list : mg "list" = none
  b_zip : mg "zip" = none
  b_enumerate : mg "enumerate" = none
  b_range : mg "range" = none
  b_max : mg "max" = none
  b_min : mg "min" = none
  b_sum : mg "sum" = none
  b_all : mg "all" = none
  b_any : mg "any" = none
  b_isinstance : mg "isinstance" = none
  b_iter : mg "iter" = none
  b_sorted : mg "sorted" = none
  b_reversed : mg "reversed" = none
section
variable {P : Program} {w : World} {K : PySem.W.Frag} {mg : Str → Option Value} {base : Heap}

def okP (p : Nat × Nat) : Bool := p.1 == p.2 || (p.1 == 45 || p.2 == 45)
def agreeM (a b : List Nat) : Bool := (a.zip b).all okP
theorem zip_at {a b : List Nat} {i c d : Nat} (h1 : a[i]? = some c) (h2 : b[i]? = some d) : (a.zip b)[i]? = some (c, d) := List.getElem?_zip_eq_some (z := (c, d)) |>.mpr ⟨h1, h2⟩
theorem all_next {α : Type} {l : List α} {p : α → Bool} {i : Nat} {x : α} (h : l[i]? = some x) : (l.take (i + 1)).all p = ((l.take i).all p && p x) := by
  rw [List.take_add_one, h, List.all_append]
  simp
theorem all_end {α : Type} {l : List α} {p : α → Bool} : (l.take l.length).all p = l.all p := by rw [List.take_length]
theorem all_not {α : Type} {l : List α} {p : α → Bool} {i : Nat} {x : α} (h : l[i]? = some x) (hp : p x = false) : l.all p = false := by
  rw [List.all_eq_false]
  exact ⟨x, List.mem_of_getElem? h, by rw [hp]; exact Bool.false_ne_true⟩
abbrev s__law_cell : Stmt := topS 27
theorem sc__law_cell : FnScope ["script", "k", "seed", "cell"] ["script", "k"] (defScope s__law_cell) := ⟨rfl, rfl, rfl, by decide +kernel, rfl, by decide +kernel, by decide +kernel⟩

def seedM (ns : List Int) : Int := ns.foldl (fun s c => (s * 31 + c % 1000003) % 1000003) 17
theorem seedM_next {ns : List Int} {i : Nat} {x : Int} (h : ns[i]? = some x) : seedM (ns.take (i + 1)) = (seedM (ns.take i) * 31 + x % 1000003) % 1000003 := by
  unfold seedM
  rw [List.take_add_one, h, List.foldl_append]
  rfl
theorem seedM_bound (ns : List Int) : 0 ≤ seedM ns ∧ seedM ns < 1000003 := by
  unfold seedM
  suffices h : ∀ (l : List Int) (s : Int), 0 ≤ s ∧ s < 1000003 → 0 ≤ l.foldl (fun s c => (s * 31 + c % 1000003) % 1000003) s ∧ l.foldl (fun s c => (s * 31 + c % 1000003) % 1000003) s < 1000003 from h ns 17 (by omega)
  intro l
  induction l with
  | nil => intro s h; exact h
  | cons c r ih => intro s h; exact ih ((s * 31 + c % 1000003) % 1000003) (by omega)
def cellM (ns : List Int) (k : Nat) : Int := if k < ns.length then ns.getD k 0 else ((seedM ns + 7) * ((k : Int) + 3) * 69621) % 2147483647
abbrev sp__law_cell (K : PySem.W.Frag) : Sp := spR K (fun a : List Int × Nat => a.1.length ≤ 63 ∧ a.2 ≤ 1000) (fun a => [.l (vis a.1), .i (a.2 : Int)]) fun a => .i (cellM a.1 a.2)
theorem has__law_cell (T : Txt K mg) (h : At K mg "_law_cell" s__law_cell ["script", "k"]) : Has P w K mg base 1 "_law_cell" ["script", "k"] (sp__law_cell K) := by
  refine h.hasR sc__law_cell (fun _ => rfl) fun f cdv A outer s H a vs Q E hr hp hv hk => ?_
  obtain ⟨ns, k⟩ := a
  obtain ⟨hl, hk1⟩ := hp
  replace hl : ns.length ≤ 63 := hl
  replace hk1 : k ≤ 1000 := hk1
  rcases hv with _ | ⟨hs, _ | ⟨rfl, _ | _⟩⟩
  obtain ⟨p, rfl, hS⟩ := hs
  have hs : Is K H (.l (vis ns)) (.ref p) := ⟨p, rfl, hS⟩
  have sc := sc__law_cell
  refine ⟨_, (pss_cons (ps_if (pt_cmpR op_lt (pv 1) (pe_callB (cr_len_k (K := K)) (by rfl) T.b_len (by decide +kernel) (pa_cons (pv 0) pa_nil)) (nomark _)) (pss_one (ps_ret (pe_ix (ix_list_k (K := K)) (pv 0) (pv 1) (fun _ _ => rfl)))) pss_nil)
    (pss_cons (ps_set (i := 2) sc.nd rfl (Or.inl rfl) pe_int)
    (pss_cons (ps_for PassesOwn.never rfl (pi_list_k (K := K) (pv 0)) (pg_name (i := 3) sc.nd rfl (Or.inl rfl)) (pss_one (ps_set (i := 2) sc.nd rfl (Or.inl rfl) (pe_op op_mod (pe_callTy cr_int (by rfl) T.b_int (by decide +kernel) (pa_cons (pe_op op_add (pe_op op_mul (pv 2) pe_int) (pe_op op_mod (pe_callTy cr_int (by rfl) T.b_int (by decide +kernel) (pa_cons (pv 3) pa_nil)) pe_int)) pa_nil)) pe_int))))
    (pss_one (ps_ret (pe_op op_mod (pe_callTy cr_int (by rfl) T.b_int (by decide +kernel) (pa_cons (pe_op op_mul (pe_op op_mul (pe_op op_add (pv 2) pe_int) (pe_op op_add (pv 1) pe_int)) pe_int) pa_nil)) pe_int)))))), ?_⟩
  refine' a_when (K := K) ?g1 ?g2 ?g3
  case g1 => walk_at "et"
  case g2 =>
    intro hb H1 e1
    have hb' : k < ns.length := by simpa using hb
    replace hs := hs.mono e1
    refine' a_rete (K := K) ?g4 ?g5 e1 hk
    case g4 => walk_at "er"
    show Dd.i _ = Dd.i (if k < ns.length then _ else _)
    rw [if_pos hb']
    rfl
  case g3 =>
    intro hb H1 e1
    have hb' : ¬ k < ns.length := by simpa using hb
    refine' a_setv (K := K) ?g6 ?g7
    case g6 => walk_at "er"
    intro H2 e2
    refine b_forA (K := K) (a := p) (xs := vis ns) (er_v rfl) (ex_l (e1.trans e2) hS) (fun i σ' H' => ∃ y, σ' = [some (.ref p), some (.int (k : Int)), some (.int (seedM (ns.take i))), y] ∧ Ex H H') (fun H3 e3 => ⟨none, rfl, (e1.trans e2).trans e3⟩) (fun i σ' H' _ ⟨_, _, e⟩ => ex_l e hS) ?_ ?_
    · rintro i x σ' H' hx ⟨y, rfl, e⟩
      obtain ⟨n, hn, rfl⟩ : ∃ n, ns[i]? = some n ∧ V.int n = x := by
        rw [List.getElem?_map] at hx
        cases q : ns[i]? with
        | none => rw [q] at hx; cases hx
        | some n => rw [q] at hx; exact ⟨n, rfl, Option.some.inj hx⟩
      have hb := seedM_bound (ns.take i)
      refine' a_setv1 (K := K) ?g8 ?g9
      case g8 => walk_at "er"
      intro H4 e4
      refine ⟨some (.int n), ?_, e.trans e4⟩
      rw [seedM_next hn]
      rfl
    · rintro σ' H' ⟨y, rfl, e⟩
      rw [List.length_map, List.take_length]
      have hb := seedM_bound ns
      refine' a_rete (K := K) ?g10 ?g11 e hk
      case g10 => walk_at "er"
      show Dd.i _ = Dd.i (if k < ns.length then _ else _)
      rw [if_neg hb']
def rsM (x : Int) (sizes : List Int) (j : Nat) : Int := (sizes.take j).foldl (fun a b => a / b) x
theorem rsM_next {x b : Int} {sizes : List Int} {j : Nat} (h : sizes[j]? = some b) : rsM x sizes (j + 1) = rsM x sizes j / b := by
  unfold rsM
  rw [List.take_add_one, h, List.foldl_append]
  rfl
def sdM (s0 : Int) : Nat → Int
  | 0 => s0
  | i + 1 => (sdM s0 i * 48271 + 974711 * (i : Int) + 12345) % 2147483647
def twM (s : Int) : Int := (s * (s / 65537 + 3)) % 2147483629
def draw1 (x : Int) (sizes : List Int) : List Int := sizes.zipIdx.map fun p => rsM x sizes p.2 % p.1
def draw2 (s0 : Int) (sizes : List Int) : List Int := sizes.zipIdx.map fun p => twM (sdM s0 (p.2 + 1)) / 19 % p.1
end
end Mi

set_option maxHeartbeats 4000000
namespace Mi
open PySem PySem.Spec PyProof.Rows L2 Evl
local macro_rules | `(tactic| walk_at "side") => `(tactic| (first | assumption | omega | exact rfl | decide | (simp only [List.length_cons, List.length_nil, List.length_map, List.length_append, List.length_replicate] <;> omega)))
local macro_rules | `(tactic| walk_at "ro") => `(tactic| (first
  | with_reducible exact ro_I0
  | with_reducible exact ro_1018
  | with_reducible exact ro_neC
  | with_reducible exact ro_eqC
  | with_reducible exact ro_neI
  | with_reducible exact ro_eqI
  | with_reducible exact ro_neB
  | with_reducible exact ro_eqB
  | ((with_reducible apply ro_mod); (walk_at "side"))
  | ((with_reducible apply ro_div) <;> (walk_at "side"))
  | ((with_reducible apply ro_divW) <;> (walk_at "side"))
  | with_reducible exact ro_1012
  | with_reducible exact ro_1015
  | ((with_reducible apply ro_mulL) <;> (walk_at "side"))
  | ((with_reducible apply ro_mulR) <;> (walk_at "side"))
  | ((with_reducible apply ro_addC); (walk_at "side"))
  | ((with_reducible apply ro_ixC) <;> (walk_at "side"))
  | ((with_reducible apply ro_ixI) <;> (walk_at "side"))
  | ((with_reducible apply ro_ixIN) <;> (walk_at "side"))
  | ((with_reducible apply ro_ixT2) <;> (walk_at "side"))
  | ((with_reducible apply ro_ixG) <;> (walk_at "side"))
  | ((with_reducible apply ro_eq); exact rfl)
  | ((with_reducible apply ro_ne); exact rfl)
  | with_reducible exact ro_isN
  | with_reducible exact ro_notN
  | with_reducible exact ro_eqL
  | with_reducible exact ro_neL
  | with_reducible exact ro_eqU
  | ((with_reducible apply ro_cat); (walk_at "side"))
  | with_reducible exact ro_inLi
  | with_reducible exact ro_inNi
  | with_reducible exact ro_inUi
  | ((with_reducible apply ro_inL) <;> (walk_at "side"))
  | ((with_reducible apply ro_inN) <;> (walk_at "side"))
  | ((with_reducible apply ro_inU) <;> (walk_at "side"))))
local macro_rules | `(tactic| walk_at "rc") => `(tactic| (first
  | with_reducible exact rc_int
  | with_reducible exact rc_intB
  | with_reducible exact rc_max2
  | ((with_reducible apply rc_lenC); (walk_at "side"))
  | with_reducible exact rc_lenI
  | with_reducible exact rc_lenT
  | with_reducible exact rc_lenIN
  | with_reducible exact rc_lenTN
  | with_reducible exact rc_lenL
  | with_reducible exact rc_lenN
  | with_reducible exact rc_lenU
  | with_reducible exact rc_listL
  | with_reducible exact rc_listU
  | with_reducible exact rc_tupL
  | with_reducible exact rc_tupN
  | ((with_reducible apply rc_isi_int); decide +kernel)
  | ((with_reducible apply rc_isi_str); decide +kernel)
  | ((with_reducible apply rc_isi_bl); decide +kernel)
  | ((with_reducible apply rc_isi_non); decide +kernel)
  | ((with_reducible apply rc_isi_u); decide +kernel)
  | ((with_reducible apply rc_isi_l); decide +kernel)))
local macro_rules | `(tactic| walk_at "er") => `(tactic| (first
  | ((with_reducible apply er_var); (exact rfl); assumption)
  | ((with_reducible apply er_v); exact rfl)
  | with_reducible exact er_c
  | ((with_reducible apply er_pick); (walk_at "er"); (walk_at "er"); (walk_at "er"))
  | ((with_reducible apply er_op); (walk_at "er"); (walk_at "er"); (walk_at "ro"))
  | ((with_reducible apply er_cb); (walk_at "era"); (walk_at "rc"))
  | ((with_reducible apply er_lst'); (walk_at "era"); (exact rfl); (walk_at "side"))
  | ((with_reducible apply er_tup'); (walk_at "era"); (exact rfl); (walk_at "side"))
  | ((with_reducible apply er_notV); (walk_at "er"))
  | ((with_reducible apply er_andV); (walk_at "er"); (intro _; (walk_at "er")))
  | ((with_reducible apply er_orV); (walk_at "er"); (intro _; (walk_at "er")))
  | ((with_reducible apply er_ite); (walk_at "et"); (intro _; (walk_at "er")); (intro _; (walk_at "er")))))
local macro_rules | `(tactic| walk_at "era") => `(tactic| (first
  | with_reducible exact era_nil
  | ((with_reducible apply era_cons); (walk_at "er"); (walk_at "era"))))
local macro_rules | `(tactic| walk_at "et") => `(tactic| (first
  | ((with_reducible apply et_an); (walk_at "et"); (intro _; (walk_at "et")))
  | ((with_reducible apply et_orr); (walk_at "et"); (intro _; (walk_at "et")))
  | ((with_reducible apply et_nt); (walk_at "et"))
  | ((with_reducible apply et1); (walk_at "er"))
  | ((with_reducible apply et2); (walk_at "er"))))

section
variable {P : Program} {w : World} {K : PySem.W.Frag} {mg : Str → Option Value} {base : Heap}
abbrev s__law_draw : Stmt := topS 28
theorem sc__law_draw : FnScope ["script", "k", "sizes", "out", "rest", "base", "seed", "spot", "twice"] ["script", "k", "sizes"] (defScope s__law_draw) := ⟨rfl, rfl, rfl, by decide +kernel, rfl, by decide +kernel, by decide +kernel⟩

def drawM (ns : List Int) (k : Nat) (sizes : List Int) : List Int := if 1000000000000000000 ≤ cellM ns k then draw1 (cellM ns k - 1000000000000000000) sizes else draw2 ((cellM ns k + 7919 * (k : Int)) % 2147483629) sizes
theorem drawM_len (ns : List Int) (k : Nat) (sizes : List Int) : (drawM ns k sizes).length = sizes.length := by
  unfold drawM draw1 draw2
  split <;> simp
theorem drawM_bd {ns : List Int} {k : Nat} {sizes : List Int} (hs : ∀ s ∈ sizes, 0 < s) {i : Nat} (h : i < sizes.length) : 0 ≤ (drawM ns k sizes).getD i 0 ∧ (drawM ns k sizes).getD i 0 < sizes.getD i 0 := by
  have hb : 0 < sizes[i] := hs _ (List.getElem_mem h)
  have e : sizes[i]? = some sizes[i] := List.getElem?_eq_getElem h
  rw [List.getD_eq_getElem?_getD, List.getD_eq_getElem?_getD, e]
  unfold drawM
  split
  · unfold draw1
    rw [List.getElem?_map, zipIdx_at e]
    exact ⟨Int.emod_nonneg _ (by omega), Int.emod_lt_of_pos _ hb⟩
  · unfold draw2
    rw [List.getElem?_map, zipIdx_at e]
    exact ⟨Int.emod_nonneg _ (by omega), Int.emod_lt_of_pos _ hb⟩
abbrev sp__law_draw (K : PySem.W.Frag) : Sp := spF K (fun a : List Int × Nat × List Int => a.1.length ≤ 63 ∧ a.2.1 ≤ 1000 ∧ a.2.2.length ≤ 1000 ∧ ∀ s ∈ a.2.2, 0 < s ∧ s < 1000000) (fun a => [.l (vis a.1), .i (a.2.1 : Int), .l (vis a.2.2)]) fun a => .n (vis (drawM a.1 a.2.1 a.2.2))
theorem has__law_draw (T : Txt K mg) (h : At K mg "_law_draw" s__law_draw ["script", "k", "sizes"]) (C__law_cell : Has P w K mg base 1 "_law_cell" ["script", "k"] (sp__law_cell K)) : Has P w K mg base 2 "_law_draw" ["script", "k", "sizes"] (sp__law_draw K) := by
  refine h.hasF sc__law_draw (fun _ => rfl) fun f cdv Ar outer s G H a vs Q E hr hp hA hv hk => ?_
  obtain ⟨ns, kk, sizes⟩ := a
  obtain ⟨hn, hkk, hz, hpos⟩ := hp
  replace hn : ns.length ≤ 63 := hn
  replace hkk : kk ≤ 1000 := hkk
  replace hz : sizes.length ≤ 1000 := hz
  replace hpos : ∀ s ∈ sizes, 0 < s ∧ s < 1000000 := hpos
  rcases hv with _ | ⟨hsc, _ | ⟨rfl, _ | ⟨⟨pz, rfl, hZ⟩, _ | _⟩⟩⟩
  rename_i xs
  replace hsc : Is K G (.l (vis ns)) xs := hsc
  replace hsc : Is K H (.l (vis ns)) xs := hsc.mono hA
  replace hZ := ex_l hA hZ
  have hzz : Is K H (.l (vis sizes)) (.ref pz) := ⟨pz, rfl, hZ⟩
  have sc := sc__law_draw
  have hx0 : drawM ns kk sizes = if 1000000000000000000 ≤ cellM ns kk then draw1 (cellM ns kk - 1000000000000000000) sizes else draw2 ((cellM ns kk + 7919 * (kk : Int)) % 2147483629) sizes := rfl
  refine ⟨_, (pss_cons (ps_set (i := 3) sc.nd rfl (Or.inl rfl) (pe_lst pa_nil))
    (pss_cons (ps_set (i := 4) sc.nd rfl (Or.inl rfl) (pe_callTy cr_int (by rfl) T.b_int (by decide +kernel) (pa_cons (pe_callH C__law_cell (hr.mono (by decide)) (pa_cons (pv 0) (pa_cons (pv 1) pa_nil))) pa_nil)))
    (pss_cons (ps_if (pt_cmpR op_ge (pv 4) (pe_op op_pow pe_int pe_int) (nomark _)) (pss_cons (ps_set (i := 4) sc.nd rfl (Or.inl rfl) (pe_op op_sub (pv 4) (pe_op op_pow pe_int pe_int)))
    (pss_cons (ps_for PassesOwn.never rfl (pi_list_k (K := K) (pv 2)) (pg_name (i := 5) sc.nd rfl (Or.inl rfl)) (pss_cons (ps_expr (pe_bm_k (K := K) PySem.F.plainAttrs_list PySem.F.slot_list_append PySem.F.type_list_append mt_append (pv 3) (pa_cons (pe_op op_mod (pe_callTy cr_int (by rfl) T.b_int (by decide +kernel) (pa_cons (pv 4) pa_nil)) (pv 5)) pa_nil)))
    (pss_one (ps_set (i := 4) sc.nd rfl (Or.inl rfl) (pe_op op_fdiv (pe_callTy cr_int (by rfl) T.b_int (by decide +kernel) (pa_cons (pv 4) pa_nil)) (pv 5))))))
    (pss_one (ps_ret (pv 3))))) pss_nil)
    (pss_cons (ps_set (i := 6) sc.nd rfl (Or.inl rfl) (pe_op op_mod (pe_callTy cr_int (by rfl) T.b_int (by decide +kernel) (pa_cons (pe_op op_add (pv 4) (pe_op op_mul pe_int (pv 1))) pa_nil)) pe_int))
    (pss_cons (ps_for PassesOwn.never rfl (pi_range1 (by rfl) T.b_range (pa_cons (pe_callB (cr_len_k (K := K)) (by rfl) T.b_len (by decide +kernel) (pa_cons (pv 2) pa_nil)) pa_nil)) (pg_name (i := 7) sc.nd rfl (Or.inl rfl)) (pss_cons (ps_set (i := 6) sc.nd rfl (Or.inl rfl) (pe_op op_mod (pe_callTy cr_int (by rfl) T.b_int (by decide +kernel) (pa_cons (pe_op op_add (pe_op op_add (pe_op op_mul (pv 6) pe_int) (pe_op op_mul pe_int (pv 7))) pe_int) pa_nil)) pe_int))
    (pss_cons (ps_set (i := 8) sc.nd rfl (Or.inl rfl) (pe_op op_mod (pe_callTy cr_int (by rfl) T.b_int (by decide +kernel) (pa_cons (pe_op op_mul (pv 6) (pe_op op_add (pe_op op_fdiv (pv 6) pe_int) pe_int)) pa_nil)) pe_int))
    (pss_one (ps_expr (pe_bm_k (K := K) PySem.F.plainAttrs_list PySem.F.slot_list_append PySem.F.type_list_append mt_append (pv 3) (pa_cons (pe_op op_mod (pe_op op_fdiv (pv 8) pe_int) (pe_ix (ix_list_k (K := K)) (pv 2) (pv 7) (fun _ _ => rfl))) pa_nil)))))))
    (pss_one (ps_ret (pv 3)))))))), ?_⟩
  refine a_new fun o H1 ho e1 h1 => ?_
  refine' a_setv (K := K) (x := .int (cellM ns kk)) (er_cb (era_cons (er_call (ns, kk) (era_cons (er_var rfl (hsc.mono e1)) (era_cons (er_v rfl) era_nil)) rfl ⟨hn, hkk⟩) era_nil) rc_int) ?g2
  generalize cellM ns kk = x at *
  intro H2 e2
  have h2 := e2 o _ h1
  refine' a_when (K := K) ?g3 ?g4 ?g5
  case g3 => walk_at "et"
  case g4 =>
    intro hb H3 e3
    have hb' : 1000000000000000000 ≤ x := by simpa using hb
    refine' a_setv (K := K) ?g6 ?g7
    case g6 => walk_at "er"
    intro H4 e4
    have h4 := e4 o _ (e3 o _ h2)
    have E4 : Ex H H4 := ((e1.trans e2).trans e3).trans e4
    refine b_forA (K := K) (a := pz) (xs := vis sizes) (er_v rfl) (ex_l E4 hZ) (fun i σ' H' => ∃ y, σ' = [some xs, some (.int (kk : Int)), some (.ref pz), some (.ref o), some (.int (rsM (x - 1000000000000000000) sizes i)), y, none, none, none] ∧ Ex H H' ∧ H' o = some (.lst (vis ((sizes.zipIdx.take i).map fun p => rsM (x - 1000000000000000000) sizes p.2 % p.1)))) (fun H5 e5 => ⟨none, rfl, E4.trans e5, e5 o _ h4⟩) (fun i σ' H' _ ⟨_, _, e, _⟩ => ex_l e hZ) ?_ ?_
    · rintro i y0 σ' H' hx ⟨y, rfl, e, hO⟩
      obtain ⟨n, hn, rfl⟩ := vis_at hx
      have hn2 := hpos n (List.mem_of_getElem? hn)
      have hn3 : 0 < n := hn2.1
      have hi : i < sizes.length := (List.getElem?_eq_some_iff.mp hn).1
      refine' b_app (K := K) hO (er_v rfl) ?g8 (by rw [List.length_map, List.length_map, List.length_take]; omega) ?g9
      case g8 => walk_at "er"
      intro H5 e5
      have E5 : Ex H (upd H5 o (.lst (vis ((sizes.zipIdx.take i).map fun p => rsM (x - 1000000000000000000) sizes p.2 % p.1) ++ [.int (rsM (x - 1000000000000000000) sizes i % n)]))) := Ex.mut (e.trans e5) ho
      refine' a_setv1 (K := K) ?g10 ?g11
      case g10 => walk_at "er"
      intro H6 e6
      refine ⟨some (.int n), ?_, E5.trans e6, ?_⟩
      · rw [rsM_next hn]
        rfl
      · rw [e6 o _ upd_same, map_take_next (zipIdx_at hn), vis_app]
    · rintro σ' H' ⟨y, rfl, e, hO⟩
      have hO2 : H' o = some (.lst (vis (drawM ns kk sizes))) := by
        rw [hO, List.length_map, List.take_of_length_le (by rw [List.length_zipIdx]; exact Nat.le_refl _)]
        rw [hx0]
        rw [if_pos hb']
        rfl
      exact ⟨.ref o, rfl, hk (.ref o) (upd G o (.lst (vis (drawM ns kk sizes)))) H' (Step.seal (Step.on hA e) ho (ex_out hA ho) hO2) ⟨o, rfl, upd_same⟩⟩
  case g5 =>
    intro hb H3 e3
    have hb' : ¬ 1000000000000000000 ≤ x := by simpa using hb
    refine' a_setv (K := K) ?g12 ?g13
    case g12 => walk_at "er"
    intro H4 e4
    have h4 := e4 o _ (e3 o _ h2)
    have E4 : Ex H H4 := ((e1.trans e2).trans e3).trans e4
    have hz4 := hzz.mono E4
    refine b_forR1 (K := K) (n := sizes.length) ?_ (by omega) (fun i σ' H' => ∃ y1 y2, σ' = [some xs, some (.int (kk : Int)), some (.ref pz), some (.ref o), some (.int x), none, some (.int (sdM ((x + 7919 * (kk : Int)) % 2147483629) i)), y1, y2] ∧ Ex H H' ∧ H' o = some (.lst (vis ((sizes.zipIdx.take i).map fun p => twM (sdM ((x + 7919 * (kk : Int)) % 2147483629) (p.2 + 1)) / 19 % p.1)))) (fun H5 e5 => ⟨none, none, rfl, E4.trans e5, e5 o _ h4⟩) ?_ ?_
    · walk_at "era"
    · rintro i σ' H' hi ⟨y1, y2, rfl, e, hO⟩
      have hn : sizes[i]? = some sizes[i] := List.getElem?_eq_getElem hi
      have hn2 := hpos sizes[i] (List.getElem_mem hi)
      have hg : sizes.getD i 0 = sizes[i] := by rw [List.getD_eq_getElem?_getD, hn]; rfl
      have hn3 : 0 < sizes.getD ((i : Nat) : Int).toNat 0 := by rw [Int.toNat_natCast, hg]; exact hn2.1
      have hzi := hzz.mono e
      generalize hsd : sdM ((x + 7919 * (kk : Int)) % 2147483629) i = sd
      refine' a_setv (K := K) ?g14 ?g15
      case g14 => walk_at "er"
      intro H5 e5
      have hsd1 : sdM ((x + 7919 * (kk : Int)) % 2147483629) (i + 1) = (sd * 48271 + 974711 * (i : Int) + 12345) % 2147483647 := by rw [← hsd]; rfl
      have hb1 : 0 ≤ (sd * 48271 + 974711 * (i : Int) + 12345) % 2147483647 := Int.emod_nonneg _ (by decide)
      have hb2 : (sd * 48271 + 974711 * (i : Int) + 12345) % 2147483647 < 2147483647 := Int.emod_lt_of_pos _ (by decide)
      generalize hsd2 : (sd * 48271 + 974711 * (i : Int) + 12345) % 2147483647 = sd2 at hsd1 hb1 hb2
      refine' a_setv (K := K) ?g16 ?g17
      case g16 => walk_at "er"
      intro H6 e6
      replace hzi := (hzi.mono e5).mono e6
      refine' a_app (K := K) (e6 o _ (e5 o _ hO)) (er_v rfl) ?g18 (by rw [List.length_map, List.length_map, List.length_take]; omega) ?g19
      case g18 => walk_at "er"
      intro H7 e7
      refine ⟨some (.int i), some (.int (twM sd2)), ?_, Ex.mut (((e.trans e5).trans e6).trans e7) ho, ?_⟩
      · rw [hsd1]
        rfl
      · rw [upd_same, map_take_next (zipIdx_at hn), vis_app, hsd1, Int.toNat_natCast, hg]
        rfl
    · rintro σ' H' ⟨y1, y2, rfl, e, hO⟩
      have hO2 : H' o = some (.lst (vis (drawM ns kk sizes))) := by
        rw [hO, List.take_of_length_le (by rw [List.length_zipIdx]; exact Nat.le_refl _)]
        rw [hx0]
        rw [if_neg hb']
        rfl
      exact ⟨.ref o, rfl, hk (.ref o) (upd G o (.lst (vis (drawM ns kk sizes)))) H' (Step.seal (Step.on hA e) ho (ex_out hA ho) hO2) ⟨o, rfl, upd_same⟩⟩
end
end Mi

set_option maxHeartbeats 4000000
namespace Mi
open PySem PySem.Spec PyProof.Rows L2 Evl
local macro_rules | `(tactic| walk_at "side") => `(tactic| (first | assumption | omega | exact rfl | decide | (simp only [List.length_cons, List.length_nil, List.length_map, List.length_append, List.length_replicate] <;> omega)))
local macro_rules | `(tactic| walk_at "ro") => `(tactic| (first
  | with_reducible exact ro_I0
  | with_reducible exact ro_1018
  | with_reducible exact ro_neC
  | with_reducible exact ro_eqC
  | with_reducible exact ro_neI
  | with_reducible exact ro_eqI
  | with_reducible exact ro_neB
  | with_reducible exact ro_eqB
  | ((with_reducible apply ro_mod); (walk_at "side"))
  | ((with_reducible apply ro_div) <;> (walk_at "side"))
  | ((with_reducible apply ro_divW) <;> (walk_at "side"))
  | with_reducible exact ro_1012
  | with_reducible exact ro_1015
  | ((with_reducible apply ro_mulL) <;> (walk_at "side"))
  | ((with_reducible apply ro_mulR) <;> (walk_at "side"))
  | ((with_reducible apply ro_addC); (walk_at "side"))
  | ((with_reducible apply ro_ixC) <;> (walk_at "side"))
  | ((with_reducible apply ro_ixI) <;> (walk_at "side"))
  | ((with_reducible apply ro_ixIN) <;> (walk_at "side"))
  | ((with_reducible apply ro_ixT2) <;> (walk_at "side"))
  | ((with_reducible apply ro_ixG) <;> (walk_at "side"))
  | ((with_reducible apply ro_eq); exact rfl)
  | ((with_reducible apply ro_ne); exact rfl)
  | with_reducible exact ro_isN
  | with_reducible exact ro_notN
  | with_reducible exact ro_eqL
  | with_reducible exact ro_neL
  | with_reducible exact ro_eqU
  | ((with_reducible apply ro_cat); (walk_at "side"))
  | with_reducible exact ro_inLi
  | with_reducible exact ro_inNi
  | with_reducible exact ro_inUi
  | ((with_reducible apply ro_inL) <;> (walk_at "side"))
  | ((with_reducible apply ro_inN) <;> (walk_at "side"))
  | ((with_reducible apply ro_inU) <;> (walk_at "side"))))
local macro_rules | `(tactic| walk_at "rc") => `(tactic| (first
  | with_reducible exact rc_int
  | with_reducible exact rc_intB
  | with_reducible exact rc_max2
  | ((with_reducible apply rc_lenC); (walk_at "side"))
  | with_reducible exact rc_lenI
  | with_reducible exact rc_lenT
  | with_reducible exact rc_lenIN
  | with_reducible exact rc_lenTN
  | with_reducible exact rc_lenL
  | with_reducible exact rc_lenN
  | with_reducible exact rc_lenU
  | with_reducible exact rc_listL
  | with_reducible exact rc_listU
  | with_reducible exact rc_tupL
  | with_reducible exact rc_tupN
  | ((with_reducible apply rc_isi_int); decide +kernel)
  | ((with_reducible apply rc_isi_str); decide +kernel)
  | ((with_reducible apply rc_isi_bl); decide +kernel)
  | ((with_reducible apply rc_isi_non); decide +kernel)
  | ((with_reducible apply rc_isi_u); decide +kernel)
  | ((with_reducible apply rc_isi_l); decide +kernel)))
local macro_rules | `(tactic| walk_at "er") => `(tactic| (first
  | ((with_reducible apply er_var); (exact rfl); assumption)
  | ((with_reducible apply er_v); exact rfl)
  | with_reducible exact er_c
  | ((with_reducible apply er_pick); (walk_at "er"); (walk_at "er"); (walk_at "er"))
  | ((with_reducible apply er_op); (walk_at "er"); (walk_at "er"); (walk_at "ro"))
  | ((with_reducible apply er_cb); (walk_at "era"); (walk_at "rc"))
  | ((with_reducible apply er_lst'); (walk_at "era"); (exact rfl); (walk_at "side"))
  | ((with_reducible apply er_tup'); (walk_at "era"); (exact rfl); (walk_at "side"))
  | ((with_reducible apply er_notV); (walk_at "er"))
  | ((with_reducible apply er_andV); (walk_at "er"); (intro _; (walk_at "er")))
  | ((with_reducible apply er_orV); (walk_at "er"); (intro _; (walk_at "er")))
  | ((with_reducible apply er_ite); (walk_at "et"); (intro _; (walk_at "er")); (intro _; (walk_at "er")))))
local macro_rules | `(tactic| walk_at "era") => `(tactic| (first
  | with_reducible exact era_nil
  | ((with_reducible apply era_cons); (walk_at "er"); (walk_at "era"))))
local macro_rules | `(tactic| walk_at "et") => `(tactic| (first
  | ((with_reducible apply et_an); (walk_at "et"); (intro _; (walk_at "et")))
  | ((with_reducible apply et_orr); (walk_at "et"); (intro _; (walk_at "et")))
  | ((with_reducible apply et_nt); (walk_at "et"))
  | ((with_reducible apply et1); (walk_at "er"))
  | ((with_reducible apply et2); (walk_at "er"))))

def nm36 : List Nat := letters ++ digits
section
variable {P : Program} {w : World} {K : PySem.W.Frag} {mg : Str → Option Value} {base : Heap}
/-! ### texts that are changed -/
structure TOk (n : Nat) (t : List Nat) : Prop where
  l : t.length ≤ n
  c : ∀ x ∈ t, x < 200
theorem TOk.mono {n m : Nat} {t : List Nat} (h : TOk n t) (e : n ≤ m) : TOk m t := ⟨Nat.le_trans h.l e, h.c⟩
def ed (t : List Nat) (p x : Nat) : List Nat := (t.take p ++ [x]) ++ t.drop (p + 1)
theorem ed_ok {n : Nat} {t : List Nat} {p x : Nat} (h : TOk n t) (hx : x < 200) : TOk (n + 1) (ed t p x) := by
  refine ⟨?_, fun y hy => ?_⟩
  · have := h.l
    unfold ed
    simp only [List.length_append, List.length_take, List.length_drop, List.length_cons, List.length_nil]
    omega
  · unfold ed at hy
    rcases List.mem_append.mp hy with q | q
    · rcases List.mem_append.mp q with q | q
      · exact h.c y (List.mem_of_mem_take q)
      · rw [List.mem_singleton.mp q]
        exact hx
    · exact h.c y (List.mem_of_mem_drop q)
theorem getD_small {l : List Nat} (h : ∀ x ∈ l, x < 200) (i : Nat) : l.getD i 0 < 200 := by
  by_cases hi : i < l.length
  · exact h _ (mem_getD hi)
  · rw [List.getD_eq_getElem?_getD, List.getElem?_eq_none (by omega)]
    decide
section
variable {σ : L2.St} {H H' G A : Hp} {tt ts tp te ti tg : TE}
/-- text[:place] + sign + text[place + 1:] -/
theorem er_edit {t : List Nat} {pl x : Nat} (ht : Er K tt σ H (.s (S t))) (lt : t.length ≤ 1000) (hp : Er K tp σ H (.i (pl : Int))) (hs : Er K ts σ H (.s (S [x]))) :
    Er K (tOp rAddS2 (tOp rAddS2 (tSl rSlS tt tNoPart (tPart tp)) ts) (tSl rSlS tt (tPart (tOp (rI0 fun i j => .int (i + j)) tp (tC (.int 1)))) tNoPart)) σ H (.s (S (ed t pl x))) :=
  er_op (er_op (er_slTo ht (by omega) hp) hs (ro_addC (by rw [List.length_take]; simp; omega))) (er_slFrom (n := pl + 1) ht (by omega) (Er.to (er_op hp er_c ro_I0) (by simp))) (ro_addC (by simp only [List.length_append, List.length_take, List.length_drop, List.length_cons, List.length_nil]; omega))
theorem er_sig {g : List Nat} {j : Int} (hs : Er K tg σ H (.s (S g))) (hi : Er K ti σ H (.i j)) (h0 : 0 ≤ j) (h1 : j < g.length) (hg : g.length ≤ 1000) : Er K (tOp rIxS tg ti) σ H (.s (S [g.getD j.toNat 0])) := er_op hs hi (ro_ixC h0 h1 (by omega))
theorem er_spot {sp : List Int} {xs : V} (z : Int) (hv : σ[1]? = some (some xs)) (hx : Is K H (.l (vis sp)) xs) (h0 : 0 ≤ z) (h1 : z < sp.length) : Er K (tOp (rIxL K) (tVar 1) (tC (.int z))) σ H (.i (sp.getD z.toNat 0)) := er_op (er_var hv hx) er_c (ro_ixI h0 h1)
end
abbrev s__law_name : Stmt := topS 29
theorem sc__law_name : FnScope ["spots", "signs", "k"] ["spots"] (defScope s__law_name) := ⟨rfl, rfl, rfl, by decide +kernel, rfl, by decide +kernel, by decide +kernel⟩

def nameN (sp : List Int) : Nat := (sp.getD 0 0 + 1).toNat
def nameT (sp : List Int) : List Nat := (List.range (nameN sp)).map fun k => nm36.getD (sp.getD (1 + k) 0).toNat 0
structure NaOk (sp : List Int) : Prop where
  l : sp.length ≤ 1000
  b0 : 0 ≤ sp.getD 0 0 ∧ sp.getD 0 0 < 8
  few : nameN sp + 1 ≤ sp.length
  b : ∀ k, k < nameN sp → 0 ≤ sp.getD (1 + k) 0 ∧ sp.getD (1 + k) 0 < 36
theorem nameT_ok {sp : List Int} (h : NaOk sp) : TOk 8 (nameT sp) ∧ 1 ≤ (nameT sp).length := by
  have h0 := h.b0
  have q : nameN sp ≤ 8 ∧ 1 ≤ nameN sp := by
    unfold nameN
    omega
  refine ⟨⟨?_, fun x hx => ?_⟩, ?_⟩
  · simp [nameT]
    exact q.1
  · unfold nameT at hx
    obtain ⟨k, _, rfl⟩ := List.mem_map.mp hx
    exact getD_small (by decide) _
  · simp [nameT]
    exact q.2
abbrev sp__law_name (K : PySem.W.Frag) : Sp := spR K (fun sp : List Int => NaOk sp) (fun sp => [.l (vis sp)]) fun sp => .s (S (nameT sp))
theorem has__law_name (T : Txt K mg) (h : At K mg "_law_name" s__law_name ["spots"]) : Has P w K mg base 1 "_law_name" ["spots"] (sp__law_name K) := by
  refine h.hasR sc__law_name (fun _ => rfl) fun f cdv A outer s H sp vs Q E hr hp hv hk => ?_
  replace hp : NaOk sp := hp
  rcases hv with _ | ⟨hs, _ | _⟩
  rename_i xs
  replace hs : Is K H (.l (vis sp)) xs := hs
  have sc := sc__law_name
  have h0 := hp.b0
  have few := hp.few
  have hl := hp.l
  have hn : ((nameN sp : Nat) : Int) = sp.getD 0 0 + 1 := by
    unfold nameN
    omega
  refine ⟨_, (pss_cons (ps_set (i := 1) sc.nd rfl (Or.inr rfl) (pe_strS [97, 98, 99, 100, 101, 102, 103, 104, 105, 106, 107, 108, 109, 110, 111, 112, 113, 114, 115, 116, 117, 118, 119, 120, 121, 122, 48, 49, 50, 51, 52, 53, 54, 55, 56, 57] (by rfl)))
    (pss_one (ps_ret (pe_bm_k (K := K) PySem.F.plainAttrs_str PySem.F.slot_str_join PySem.F.type_str_join (mt_join_k (K := K)) (pe_strS [] (by rfl)) (pa_cons (pe_lc (own := [("k", 2)]) (g := gName 2) (by rfl) sc.nd (pi_range1 (by rfl) T.b_range (pa_cons (pe_op op_add (pe_callTy cr_int (by rfl) T.b_int (by decide +kernel) (pa_cons (pe_ix (ix_list_k (K := K)) (pv 0) pe_int (fun _ _ => rfl)) pa_nil)) pe_int) pa_nil)) (blkOk_by (N := ["spots", "signs", "k"]) (sc := defScope s__law_name) (own := [("k", 2)]) (by decide +kernel)) (fun _ _ _ _ _ => (pg_name (i := 2) sc.nd rfl (Or.inl rfl))) (fun _ _ _ _ _ => pts_nil) (fun _ _ _ _ _ => (pe_ix ix_str (pv 1) (pe_callTy cr_int (by rfl) T.b_int (by decide +kernel) (pa_cons (pe_ix (ix_list_k (K := K)) (pv 0) (pe_op op_add pe_int (pv 2)) (fun _ _ => rfl)) pa_nil)) (fun _ _ => rfl)))) pa_nil))))), ?_⟩
  refine a_setv (K := K) (x := .str (S nm36)) er_c fun H1 e1 => ?_
  replace hs := hs.mono e1
  refine a_rete (K := K) (er_bm (K := K) (d0 := .s (S [])) (ds := [.n ((nameT sp).map fun c => V.str (S [c]))]) er_c (era_cons (Er.to (er_lcR' (K := K) (n := nameN sp) (vs := [2]) (fun k => V.str (S [nm36.getD (sp.getD (1 + k) 0).toNat 0])) ?_ (by omega) (fun _ => rfl) ?_) ?_) era_nil) (rm_joinC ?_)) rfl e1 hk
  · refine era_cons (Er.to (er_op (er_cb (era_cons (Er.to (er_op (er_var rfl hs) er_c (ro_ixI (by decide) (by simp; omega))) rfl) era_nil) rc_int) er_c ro_I0) ?_) era_nil
    show Dd.i (sp.getD 0 0 + 1) = Dd.i _
    rw [hn]
  · intro k H2 e2 hk2
    have hb := hp.b k hk2
    exact er_op (d1 := .s (S nm36)) (d2 := .i (sp.getD (1 + k) 0)) (er_v rfl) (er_cb (era_cons (Er.to (er_op (d2 := .i ((1 + k : Nat) : Int)) (er_var rfl (hs.mono e2)) (Er.to (er_op er_c (er_v rfl) ro_I0) (by show Dd.i (1 + (k : Int)) = Dd.i _; congr 2)) (ro_ixI (by omega) (by omega))) (by rw [Int.toNat_natCast])) era_nil) rc_int) (ro_ixC hb.1 hb.2 (by decide))
  · rw [nameT, List.map_map]
    rfl
  · have := (nameT_ok hp).1.l
    omega
end
end Mi

set_option maxHeartbeats 4000000
namespace Mi
open PySem PySem.Spec PyProof.Rows L2 Evl
local macro_rules | `(tactic| walk_at "side") => `(tactic| (first | assumption | omega | exact rfl | decide | (simp only [List.length_cons, List.length_nil, List.length_map, List.length_append, List.length_replicate] <;> omega)))
local macro_rules | `(tactic| walk_at "ro") => `(tactic| (first
  | with_reducible exact ro_I0
  | with_reducible exact ro_1018
  | with_reducible exact ro_neC
  | with_reducible exact ro_eqC
  | with_reducible exact ro_neI
  | with_reducible exact ro_eqI
  | with_reducible exact ro_neB
  | with_reducible exact ro_eqB
  | ((with_reducible apply ro_mod); (walk_at "side"))
  | ((with_reducible apply ro_div) <;> (walk_at "side"))
  | ((with_reducible apply ro_divW) <;> (walk_at "side"))
  | with_reducible exact ro_1012
  | with_reducible exact ro_1015
  | ((with_reducible apply ro_mulL) <;> (walk_at "side"))
  | ((with_reducible apply ro_mulR) <;> (walk_at "side"))
  | ((with_reducible apply ro_addC); (walk_at "side"))
  | ((with_reducible apply ro_ixC) <;> (walk_at "side"))
  | ((with_reducible apply ro_ixI) <;> (walk_at "side"))
  | ((with_reducible apply ro_ixIN) <;> (walk_at "side"))
  | ((with_reducible apply ro_ixT2) <;> (walk_at "side"))
  | ((with_reducible apply ro_ixG) <;> (walk_at "side"))
  | ((with_reducible apply ro_eq); exact rfl)
  | ((with_reducible apply ro_ne); exact rfl)
  | with_reducible exact ro_isN
  | with_reducible exact ro_notN
  | with_reducible exact ro_eqL
  | with_reducible exact ro_neL
  | with_reducible exact ro_eqU
  | ((with_reducible apply ro_cat); (walk_at "side"))
  | with_reducible exact ro_inLi
  | with_reducible exact ro_inNi
  | with_reducible exact ro_inUi
  | ((with_reducible apply ro_inL) <;> (walk_at "side"))
  | ((with_reducible apply ro_inN) <;> (walk_at "side"))
  | ((with_reducible apply ro_inU) <;> (walk_at "side"))))
local macro_rules | `(tactic| walk_at "rc") => `(tactic| (first
  | with_reducible exact rc_int
  | with_reducible exact rc_intB
  | with_reducible exact rc_max2
  | ((with_reducible apply rc_lenC); (walk_at "side"))
  | with_reducible exact rc_lenI
  | with_reducible exact rc_lenT
  | with_reducible exact rc_lenIN
  | with_reducible exact rc_lenTN
  | with_reducible exact rc_lenL
  | with_reducible exact rc_lenN
  | with_reducible exact rc_lenU
  | with_reducible exact rc_listL
  | with_reducible exact rc_listU
  | with_reducible exact rc_tupL
  | with_reducible exact rc_tupN
  | ((with_reducible apply rc_isi_int); decide +kernel)
  | ((with_reducible apply rc_isi_str); decide +kernel)
  | ((with_reducible apply rc_isi_bl); decide +kernel)
  | ((with_reducible apply rc_isi_non); decide +kernel)
  | ((with_reducible apply rc_isi_u); decide +kernel)
  | ((with_reducible apply rc_isi_l); decide +kernel)))
local macro_rules | `(tactic| walk_at "er") => `(tactic| (first
  | ((with_reducible apply er_var); (exact rfl); assumption)
  | ((with_reducible apply er_v); exact rfl)
  | with_reducible exact er_c
  | ((with_reducible apply er_pick); (walk_at "er"); (walk_at "er"); (walk_at "er"))
  | ((with_reducible apply er_op); (walk_at "er"); (walk_at "er"); (walk_at "ro"))
  | ((with_reducible apply er_cb); (walk_at "era"); (walk_at "rc"))
  | ((with_reducible apply er_lst'); (walk_at "era"); (exact rfl); (walk_at "side"))
  | ((with_reducible apply er_tup'); (walk_at "era"); (exact rfl); (walk_at "side"))
  | ((with_reducible apply er_notV); (walk_at "er"))
  | ((with_reducible apply er_andV); (walk_at "er"); (intro _; (walk_at "er")))
  | ((with_reducible apply er_orV); (walk_at "er"); (intro _; (walk_at "er")))
  | ((with_reducible apply er_ite); (walk_at "et"); (intro _; (walk_at "er")); (intro _; (walk_at "er")))))
local macro_rules | `(tactic| walk_at "era") => `(tactic| (first
  | with_reducible exact era_nil
  | ((with_reducible apply era_cons); (walk_at "er"); (walk_at "era"))))
local macro_rules | `(tactic| walk_at "et") => `(tactic| (first
  | ((with_reducible apply et_an); (walk_at "et"); (intro _; (walk_at "et")))
  | ((with_reducible apply et_orr); (walk_at "et"); (intro _; (walk_at "et")))
  | ((with_reducible apply et_nt); (walk_at "et"))
  | ((with_reducible apply et1); (walk_at "er"))
  | ((with_reducible apply et2); (walk_at "er"))))

section
variable {P : Program} {w : World} {K : PySem.W.Frag} {mg : Str → Option Value} {base : Heap}
theorem kit2 {n m1 m2 : String} {b1 b2 : Bool} (h1 : kitB n m1 = some b1) (h2 : kitB n m2 = some b2) : PySem.W.kitAny K (.type n) [.type m1, .type m2] = some (b1 || b2) := by
  have q1 : PySem.W.kitOne K (.type n) (.type m1) = some b1 := kit_ty h1
  have q2 : PySem.W.kitOne K (.type n) (.type m2) = some b2 := kit_ty h2
  unfold PySem.W.kitAny
  rw [q1]
  cases b1 with
  | true => rfl
  | false =>
    show PySem.W.kitAny K (.type n) [.type m2] = some b2
    unfold PySem.W.kitAny
    rw [q2]
    cases b2 <;> rfl
/-! ### what is given: ints, texts, None, tuples of such -/
mutual
def okA : Dd → Prop
  | .v (.str x) => PyData.strOk x = true
  | .v (.int _) => True
  | .v .non => True
  | .U ds => okAL ds ∧ ds.length ≤ 1000
  | _ => False
def okAL : List Dd → Prop
  | [] => True
  | d :: r => okA d ∧ okAL r
end
theorem okAL_at : ∀ {ds : List Dd} {i : Nat} {d : Dd}, okAL ds → ds[i]? = some d → okA d
  | [], _, _, _, h => by simp at h
  | x :: r, 0, d, h, e => Option.some.inj e ▸ h.1
  | x :: r, i + 1, d, h, e => okAL_at (i := i) h.2 e
abbrev s_as_tuples : Stmt := topS 1
theorem sc_as_tuples : FnScope ["value", "item"] ["value"] (defScope s_as_tuples) := ⟨rfl, rfl, rfl, by decide +kernel, rfl, by decide +kernel, by decide +kernel⟩

abbrev sp_tup (K : PySem.W.Frag) (k : Nat) : Sp := spF K (fun d : Dd => okA d ∧ depD d < k) (fun d => [d]) id
theorem has_as_tuples (T : Txt K mg) (h : At K mg "as_tuples" s_as_tuples ["value"]) : ∀ k, Has P w K mg base k "as_tuples" ["value"] (sp_tup K k)
  | 0 => h.none fun d hp => by
    have := hp.2
    omega
  | k + 1 => by
    have C_as_tuples := has_as_tuples T h k
    refine h.hasF sc_as_tuples (fun _ => rfl) fun f cdv Ar outer s G A d vs Q E hr hp hA hv hk => ?_
    obtain ⟨hok, hdep⟩ := hp
    rcases hv with _ | ⟨hx, _ | _⟩
    rename_i x
    have sc := sc_as_tuples
    refine ⟨_, (pss_cons (ps_if (pt_val (pe_callB (cr_isiT_k (K := K)) (by rfl) T.b_isinstance (by decide +kernel) (pa_cons (pv 0) (pa_cons (pe_tup (pa_cons (pe_bltn (v := .ty "list") (by rfl) T.b_list (by decide +kernel) rfl) (pa_cons (pe_bltn (v := .ty "tuple") (by rfl) T.b_tuple (by decide +kernel) rfl) pa_nil))) pa_nil)))) (pss_one (ps_ret (pe_callTy (cr_tuple_k (K := K)) (by rfl) T.b_tuple (by decide +kernel) (pa_cons (pe_lc (own := [("item", 1)]) (g := gName 1) (by rfl) sc.nd (pi_seqV (K := K) (pv 0)) (blkOk_by (N := ["value", "item"]) (sc := defScope s_as_tuples) (own := [("item", 1)]) (by decide +kernel)) (fun _ _ _ _ _ => (pg_name (i := 1) sc.nd rfl (Or.inl rfl))) (fun _ _ _ _ _ => pts_nil) (fun _ _ _ _ _ => (pe_callH C_as_tuples (hr.mono (Nat.le_refl _)) (pa_cons (pv 1) pa_nil)))) pa_nil)))) pss_nil)
    (pss_one (ps_ret (pv 0)))), ?_⟩
    match d, hok, hdep, hx, hk with
    | .U ds, hok, hdep, hx, hk =>
      have hd : depL ds + 1 < k + 1 := hdep
      have ho : okAL ds ∧ ds.length ≤ 1000 := by unfold okA at hok; exact hok
      refine a_when (K := K) (b := false || true) (et2 (er_isiT (.type "tuple") (er_var rfl (hx.mono hA)) (fun _ _ z => ty_Ud z) (kit2 (by decide +kernel) (by decide +kernel)))) (fun _ A1 e1 => ?_) fun hb => by cases hb
      refine s_ret (K := K) (G := G) (d' := .U ds) (ef_cb (efa_cons (Ef.to (ef_lc (K := K) (its := ds) (inj := id) (vs := [1]) (fun _ => true) id (by rw [List.map_id]; exact if_seqU rfl hx) (by omega) ?_) ?_) efa_nil) rf_tupN) (hA.trans e1) rfl fun v G' A' st z => hk v G' A' ((Step.on hA e1).trans st) z
      · intro i d' v G' A' eg ea hd' hv'
        have e0 := depL_at hd'
        exact ⟨[some x, some v], fun Q q => q, rfl, fun H2 e Q q => q H2 (Ex.refl _), fun _ => ef_call d' (efa_cons (ef_var rfl hv') efa_nil) rfl ⟨okAL_at ho.1 hd', by omega⟩⟩
      · rw [filt_true, List.map_id]
    | .v (.str z), hok, hdep, hx, hk =>
      exact a_when (K := K) (b := false || false) (et2 (er_isiT (.type "str") (er_var rfl (hx.mono hA)) (fun _ _ e => by rw [show _ = V.str z from e]; exact .base (.str z)) (kit2 (by decide +kernel) (by decide +kernel)))) (fun hb => by cases hb) fun _ A1 e1 => s_ret (K := K) (G := G) (ef_var rfl hx) (hA.trans e1) rfl fun v G' A' st q => hk v G' A' ((Step.on hA e1).trans st) q
    | .v (.int z), hok, hdep, hx, hk =>
      exact a_when (K := K) (b := false || false) (et2 (er_isiT (.type "int") (er_var rfl (hx.mono hA)) (fun _ _ e => by rw [show _ = V.int z from e]; exact .base (.int z)) (kit2 (by decide +kernel) (by decide +kernel)))) (fun hb => by cases hb) fun _ A1 e1 => s_ret (K := K) (G := G) (ef_var rfl hx) (hA.trans e1) rfl fun v G' A' st q => hk v G' A' ((Step.on hA e1).trans st) q
    | .v .non, hok, hdep, hx, hk =>
      exact a_when (K := K) (b := false || false) (et2 (er_isiT (.type "NoneType") (er_var rfl (hx.mono hA)) (fun _ _ e => by rw [show _ = V.non from e]; exact .base .non) (kit2 (by decide +kernel) (by decide +kernel)))) (fun hb => by cases hb) fun _ A1 e1 => s_ret (K := K) (G := G) (ef_var rfl hx) (hA.trans e1) rfl fun v G' A' st q => hk v G' A' ((Step.on hA e1).trans st) q
end
end Mi

set_option maxHeartbeats 4000000
namespace Mi
open PySem PySem.Spec PyProof.Rows L2 Evl
local macro_rules | `(tactic| walk_at "side") => `(tactic| (first | assumption | omega | exact rfl | decide | (simp only [List.length_cons, List.length_nil, List.length_map, List.length_append, List.length_replicate] <;> omega)))
local macro_rules | `(tactic| walk_at "ro") => `(tactic| (first
  | with_reducible exact ro_I0
  | with_reducible exact ro_1018
  | with_reducible exact ro_neC
  | with_reducible exact ro_eqC
  | with_reducible exact ro_neI
  | with_reducible exact ro_eqI
  | with_reducible exact ro_neB
  | with_reducible exact ro_eqB
  | ((with_reducible apply ro_mod); (walk_at "side"))
  | ((with_reducible apply ro_div) <;> (walk_at "side"))
  | ((with_reducible apply ro_divW) <;> (walk_at "side"))
  | with_reducible exact ro_1012
  | with_reducible exact ro_1015
  | ((with_reducible apply ro_mulL) <;> (walk_at "side"))
  | ((with_reducible apply ro_mulR) <;> (walk_at "side"))
  | ((with_reducible apply ro_addC); (walk_at "side"))
  | ((with_reducible apply ro_ixC) <;> (walk_at "side"))
  | ((with_reducible apply ro_ixI) <;> (walk_at "side"))
  | ((with_reducible apply ro_ixIN) <;> (walk_at "side"))
  | ((with_reducible apply ro_ixT2) <;> (walk_at "side"))
  | ((with_reducible apply ro_ixG) <;> (walk_at "side"))
  | ((with_reducible apply ro_eq); exact rfl)
  | ((with_reducible apply ro_ne); exact rfl)
  | with_reducible exact ro_isN
  | with_reducible exact ro_notN
  | with_reducible exact ro_eqL
  | with_reducible exact ro_neL
  | with_reducible exact ro_eqU
  | ((with_reducible apply ro_cat); (walk_at "side"))
  | with_reducible exact ro_inLi
  | with_reducible exact ro_inNi
  | with_reducible exact ro_inUi
  | ((with_reducible apply ro_inL) <;> (walk_at "side"))
  | ((with_reducible apply ro_inN) <;> (walk_at "side"))
  | ((with_reducible apply ro_inU) <;> (walk_at "side"))))
local macro_rules | `(tactic| walk_at "rc") => `(tactic| (first
  | with_reducible exact rc_int
  | with_reducible exact rc_intB
  | with_reducible exact rc_max2
  | ((with_reducible apply rc_lenC); (walk_at "side"))
  | with_reducible exact rc_lenI
  | with_reducible exact rc_lenT
  | with_reducible exact rc_lenIN
  | with_reducible exact rc_lenTN
  | with_reducible exact rc_lenL
  | with_reducible exact rc_lenN
  | with_reducible exact rc_lenU
  | with_reducible exact rc_listL
  | with_reducible exact rc_listU
  | with_reducible exact rc_tupL
  | with_reducible exact rc_tupN
  | ((with_reducible apply rc_isi_int); decide +kernel)
  | ((with_reducible apply rc_isi_str); decide +kernel)
  | ((with_reducible apply rc_isi_bl); decide +kernel)
  | ((with_reducible apply rc_isi_non); decide +kernel)
  | ((with_reducible apply rc_isi_u); decide +kernel)
  | ((with_reducible apply rc_isi_l); decide +kernel)))
local macro_rules | `(tactic| walk_at "er") => `(tactic| (first
  | ((with_reducible apply er_var); (exact rfl); assumption)
  | ((with_reducible apply er_v); exact rfl)
  | with_reducible exact er_c
  | ((with_reducible apply er_pick); (walk_at "er"); (walk_at "er"); (walk_at "er"))
  | ((with_reducible apply er_op); (walk_at "er"); (walk_at "er"); (walk_at "ro"))
  | ((with_reducible apply er_cb); (walk_at "era"); (walk_at "rc"))
  | ((with_reducible apply er_lst'); (walk_at "era"); (exact rfl); (walk_at "side"))
  | ((with_reducible apply er_tup'); (walk_at "era"); (exact rfl); (walk_at "side"))
  | ((with_reducible apply er_notV); (walk_at "er"))
  | ((with_reducible apply er_andV); (walk_at "er"); (intro _; (walk_at "er")))
  | ((with_reducible apply er_orV); (walk_at "er"); (intro _; (walk_at "er")))
  | ((with_reducible apply er_ite); (walk_at "et"); (intro _; (walk_at "er")); (intro _; (walk_at "er")))))
local macro_rules | `(tactic| walk_at "era") => `(tactic| (first
  | with_reducible exact era_nil
  | ((with_reducible apply era_cons); (walk_at "er"); (walk_at "era"))))
local macro_rules | `(tactic| walk_at "et") => `(tactic| (first
  | ((with_reducible apply et_an); (walk_at "et"); (intro _; (walk_at "et")))
  | ((with_reducible apply et_orr); (walk_at "et"); (intro _; (walk_at "et")))
  | ((with_reducible apply et_nt); (walk_at "et"))
  | ((with_reducible apply et1); (walk_at "er"))
  | ((with_reducible apply et2); (walk_at "er"))))

section
variable {P : Program} {w : World} {K : PySem.W.Frag} {mg : Str → Option Value} {base : Heap}
/-! ### the classes of errors -/
def flT (w : Nat) : List Str := ([["index"], ["index"], ["name"], ["one", "two"], ["name"], ["index"], [], ["atom"], ["row"], [], [], ["index"], ["index"], ["sheet"], [], [], ["count"], ["cells"], ["cell"], ["deed"], ["line"], []] : List (List Str)).getD w []
def ixT (w : Nat) : List Nat := ([[0], [0], [2], [0, 1], [2], [0], [], [4], [3], [], [], [0], [0], [2], [], [], [0], [5], [0], [4], [0], []] : List (List Nat)).getD w []
structure ErAll (K : PySem.W.Frag) (mg : Str → Option Value) (Cs fs : Nat → Addr) (CS : Addr) : Prop where
  gS : mg "StampError" = some (.ref CS)
  bV : mg "ValueError" = none
  g0 : mg "BadName" = some (.ref (Cs 0))
  g1 : mg "BadStamp" = some (.ref (Cs 1))
  g2 : mg "NameTaken" = some (.ref (Cs 2))
  g3 : mg "SizesDiffer" = some (.ref (Cs 3))
  g4 : mg "UnknownName" = some (.ref (Cs 4))
  g5 : mg "BadStep" = some (.ref (Cs 5))
  g6 : mg "StocksDiffer" = some (.ref (Cs 6))
  g7 : mg "BadAtom" = some (.ref (Cs 7))
  g8 : mg "NoOrder" = some (.ref (Cs 8))
  g9 : mg "BadPrices" = some (.ref (Cs 9))
  g10 : mg "BadChances" = some (.ref (Cs 10))
  g11 : mg "BadWish" = some (.ref (Cs 11))
  g12 : mg "BadShape" = some (.ref (Cs 12))
  g13 : mg "BadSheet" = some (.ref (Cs 13))
  g14 : mg "DeskFull" = some (.ref (Cs 14))
  g15 : mg "NothingToUndo" = some (.ref (Cs 15))
  g16 : mg "BadCount" = some (.ref (Cs 16))
  g17 : mg "CannotMake" = some (.ref (Cs 17))
  g18 : mg "Mismatch" = some (.ref (Cs 18))
  g19 : mg "BadDeed" = some (.ref (Cs 19))
  g20 : mg "BadNote" = some (.ref (Cs 20))
  g21 : mg "BadClaimText" = some (.ref (Cs 21))
  ox : ∀ w, w < 22 → OexC K (Cs w)
  xd : ∀ w, w < 22 → ExdC K (Cs w)
  xf : ∀ w, w < 22 → XfC K (Cs w)
  iC : ∀ w, w < 22 → flT w ≠ [] → PySem.W.findIn K (.ref (Cs w)) "__init__" = some (some (.ref (fs w)))
  tI : ∀ w, w < 22 → flT w ≠ [] → PySem.W.typeIn K (.ref (fs w)) = some (.type "function")
  nr : ∀ w, w < 22 → ∀ f ∈ flT w, PySem.W.findIn K (.ref (Cs w)) f = some none
  e0 : ∀ w, w < 22 → flT w = [] → PySem.W.excIn K (Cs w) [.type "ValueError", .type "Exception", .type "BaseException", .type "object"] "ValueError.__new__" = true
  kit : ∀ i j, i < 22 → j < 22 → PySem.W.kitOne K (.ref (Cs i)) (.ref (Cs j)) = some (decide (i = j))
  kS : ∀ i, i < 22 → PySem.W.kitOne K (.ref (Cs i)) (.ref CS) = some true
  kV : ∀ i, i < 22 → PySem.W.kitOne K (.ref (Cs i)) (.type "ValueError") = some true
  eS : ∀ i, i < 22 → PySem.W.exmOne K (.ref (Cs i)) (.ref CS) = some true
def okI (d : Dd) : Prop := okA d ∧ depD d < 5
abbrev spI (K : PySem.W.Frag) (Cs : Nat → Addr) (w : Nat) : Sp := spEx K (Cs w) (flT w) okI
def InitAll (P : Program) (w : World) (K : PySem.W.Frag) (mg : Str → Option Value) (base : Heap) (Cs fs : Nat → Addr) (fds : Nat → FuncData) : Prop := ∀ i, i < 22 → flT i ≠ [] → FnOk P w K mg base CX0 6 (fs i) (fds i) ("self" :: flT i) (spI K Cs i) ∧ Binds K (fds i) ("self" :: flT i) []
theorem ex_put {G A : Hp} {a dx : Addr} {o o2 : HO} (e : Ex G A) (ga : G a = none) (hd : A dx = none) : Ex G (upd (upd A dx o) a o2) := ((e.trans (Ex.new hd))).mut ga
theorem keep_put {A A1 : Hp} {a dx : Addr} {o o2 : HO} (e : Ex A A1) (hd : A1 dx = none) : ∀ b u, b ≠ a → A b = some u → (upd (upd A1 dx o) a o2) b = some u := fun b u hb h => by
  have h := e b u h
  have nd : b ≠ dx := fun z => by rw [z, hd] at h; cases h
  rw [upd_ne hb, upd_ne nd]
  exact h
theorem ost_one {σ : L2.St} {G A : Hp} {a C : Addr} {f : Str} {te : TE} {d : Dd} {Q R : VK} (T : OexC K C) (hno : PySem.W.findIn K (.ref C) f = some none) (h : Ef K te σ G d) (hG : Ex G A) (ha : A a = some (exo a C none)) (ga : G a = none) (hσ : σ[0]? = some (some (.ref a)))
    (hk : ∀ (G' A' : Hp) (dx : Addr) (fs : List (Str × V)), Ex G G' → Ex G' A' → (∀ b, A b ≠ none → G b = none → G' b = none) → (∀ b o, b ≠ a → A b = some o → A' b = some o) → A dx = none → G' dx = none → A' a = some (exo a C (some dx)) → A' dx = some (exd dx fs) → Flds K G' fs [f] [d] → Q .non A') :
    tOst K f (tVar 0) te { nx := fun _ H' => Q .non H', rt := R } σ A := h G A (Ex.refl G) hG _ fun y G1 A1 st hy =>
  ⟨_, hσ, a, C, rfl, T, hno, .inl ⟨st.a a _ ha, fun dx hd hda => hk G1 _ dx [(f, y)] st.g (ex_put st.v (st.f a (by rw [ha]; simp) ga) hd) (fun b h1 h2 => st.f b h1 h2) (keep_put st.a hd) (ex_out st.a hd) (ex_out st.v hd) upd_same (by rw [upd_ne hda, upd_same]) fun i g e h1 h2 => by
    match i, h1, h2 with
    | 0, h1, h2 =>
      obtain rfl : f = g := Option.some.inj h1
      obtain rfl : d = e := Option.some.inj h2
      exact ⟨y, by simp [List.lookup], hy⟩
    | i + 1, h1, _ => simp at h1⟩⟩
abbrev s_BadName___init__ : Stmt := inClass (topS 4) 0
theorem sc_BadName___init__ : FnScope ["self", "index"] ["self", "index"] (defScope s_BadName___init__) := ⟨rfl, rfl, rfl, by decide +kernel, rfl, by decide +kernel, by decide +kernel⟩

theorem ok_i0 {Cs fs : Nat → Addr} {CS f : Addr} {fd : FuncData} (T : Txt K mg) (TE : ErAll K mg Cs fs CS) (F : Fun K "__init__" "BadName.__init__" s_BadName___init__ f fd) : FnOk P w K mg base CX0 6 f fd ["self", "index"] (spI K Cs 0) := by
  have sc := sc_BadName___init__
  refine F.ok sc (fun vs H Q E h => ?_) (fun cdv Ar outer s A vs Q E hr h => ?_)
  · obtain ⟨a, ws, ds, G, rfl, hl, _, _, _, hv, _⟩ := h
    have q1 := hv.len
    have q2 : ds.length = 1 := hl
    show ws.length + 1 = 2
    omega
  obtain ⟨a, ws, ds, G, rfl, hl, hG, ha, ga, hv, hok, hk⟩ := h
  match ds, hl, hv, hok, hk with
  | [d], _, hv, hok, hk =>
    rcases hv with _ | ⟨hx, _ | _⟩
    refine ⟨_, (pss_one (ps_ost (pv 0) (pv 1))), ?_⟩
    have o := hok d (List.mem_singleton.mpr rfl)
    exact ost_one (TE.ox 0 (by decide)) (TE.nr 0 (by decide) _ (by decide)) (ef_var rfl hx) hG ha ga rfl hk
abbrev s_BadStamp___init__ : Stmt := inClass (topS 5) 0
theorem sc_BadStamp___init__ : FnScope ["self", "index"] ["self", "index"] (defScope s_BadStamp___init__) := ⟨rfl, rfl, rfl, by decide +kernel, rfl, by decide +kernel, by decide +kernel⟩

theorem ok_i1 {Cs fs : Nat → Addr} {CS f : Addr} {fd : FuncData} (T : Txt K mg) (TE : ErAll K mg Cs fs CS) (F : Fun K "__init__" "BadStamp.__init__" s_BadStamp___init__ f fd) : FnOk P w K mg base CX0 6 f fd ["self", "index"] (spI K Cs 1) := by
  have sc := sc_BadStamp___init__
  refine F.ok sc (fun vs H Q E h => ?_) (fun cdv Ar outer s A vs Q E hr h => ?_)
  · obtain ⟨a, ws, ds, G, rfl, hl, _, _, _, hv, _⟩ := h
    have q1 := hv.len
    have q2 : ds.length = 1 := hl
    show ws.length + 1 = 2
    omega
  obtain ⟨a, ws, ds, G, rfl, hl, hG, ha, ga, hv, hok, hk⟩ := h
  match ds, hl, hv, hok, hk with
  | [d], _, hv, hok, hk =>
    rcases hv with _ | ⟨hx, _ | _⟩
    refine ⟨_, (pss_one (ps_ost (pv 0) (pv 1))), ?_⟩
    have o := hok d (List.mem_singleton.mpr rfl)
    exact ost_one (TE.ox 1 (by decide)) (TE.nr 1 (by decide) _ (by decide)) (ef_var rfl hx) hG ha ga rfl hk
abbrev s_NameTaken___init__ : Stmt := inClass (topS 6) 0
theorem sc_NameTaken___init__ : FnScope ["self", "name"] ["self", "name"] (defScope s_NameTaken___init__) := ⟨rfl, rfl, rfl, by decide +kernel, rfl, by decide +kernel, by decide +kernel⟩

theorem ok_i2 {Cs fs : Nat → Addr} {CS f : Addr} {fd : FuncData} (T : Txt K mg) (TE : ErAll K mg Cs fs CS) (F : Fun K "__init__" "NameTaken.__init__" s_NameTaken___init__ f fd) : FnOk P w K mg base CX0 6 f fd ["self", "name"] (spI K Cs 2) := by
  have sc := sc_NameTaken___init__
  refine F.ok sc (fun vs H Q E h => ?_) (fun cdv Ar outer s A vs Q E hr h => ?_)
  · obtain ⟨a, ws, ds, G, rfl, hl, _, _, _, hv, _⟩ := h
    have q1 := hv.len
    have q2 : ds.length = 1 := hl
    show ws.length + 1 = 2
    omega
  obtain ⟨a, ws, ds, G, rfl, hl, hG, ha, ga, hv, hok, hk⟩ := h
  match ds, hl, hv, hok, hk with
  | [d], _, hv, hok, hk =>
    rcases hv with _ | ⟨hx, _ | _⟩
    refine ⟨_, (pss_one (ps_ost (pv 0) (pv 1))), ?_⟩
    have o := hok d (List.mem_singleton.mpr rfl)
    exact ost_one (TE.ox 2 (by decide)) (TE.nr 2 (by decide) _ (by decide)) (ef_var rfl hx) hG ha ga rfl hk
abbrev s_SizesDiffer___init__ : Stmt := inClass (topS 7) 0
theorem sc_SizesDiffer___init__ : FnScope ["self", "one", "two"] ["self", "one", "two"] (defScope s_SizesDiffer___init__) := ⟨rfl, rfl, rfl, by decide +kernel, rfl, by decide +kernel, by decide +kernel⟩

theorem ok_i3 {Cs fs : Nat → Addr} {CS f : Addr} {fd : FuncData} (T : Txt K mg) (TE : ErAll K mg Cs fs CS) (F : Fun K "__init__" "SizesDiffer.__init__" s_SizesDiffer___init__ f fd) : FnOk P w K mg base CX0 6 f fd ["self", "one", "two"] (spI K Cs 3) := by
  have sc := sc_SizesDiffer___init__
  refine F.ok sc (fun vs H Q E h => ?_) (fun cdv Ar outer s A vs Q E hr h => ?_)
  · obtain ⟨a, ws, ds, G, rfl, hl, _, _, _, hv, _⟩ := h
    have q1 := hv.len
    have q2 : ds.length = 2 := hl
    show ws.length + 1 = 3
    omega
  obtain ⟨a, ws, ds, G, rfl, hl, hG, ha, ga, hv, hok, hk⟩ := h
  match ds, hl, hv, hok, hk with
  | [d1, d2], _, hv, hok, hk =>
    rcases hv with _ | ⟨hx, _ | ⟨hy, _ | _⟩⟩
    rename_i x y
    refine ⟨_, (pss_cons (ps_ost (pv 0) (pv 1))
    (pss_one (ps_ost (pv 0) (pv 2)))), ?_⟩
    refine ⟨_, rfl, _, rfl, a, Cs 3, rfl, TE.ox 3 (by decide), TE.nr 3 (by decide) _ (by decide), .inl ⟨ha, fun dx hd hda => ?_⟩⟩
    refine ⟨_, rfl, _, rfl, a, Cs 3, rfl, TE.ox 3 (by decide), TE.nr 3 (by decide) _ (by decide), .inr ⟨dx, [("one", x)], upd_same, by rw [upd_ne hda, upd_same], (show (1 : Nat) ≤ 900 by decide), ?_⟩⟩
    have e0 : upd (upd (upd A dx (exd dx [("one", x)])) a (exo a (Cs 3) (some dx))) dx (exd dx [("two", y), ("one", x)]) = upd (upd A dx (exd dx [("two", y), ("one", x)])) a (exo a (Cs 3) (some dx)) := by
      funext b
      by_cases h1 : b = dx
      · rw [h1, upd_same, upd_ne hda, upd_same]
      · rw [upd_ne h1]
        by_cases h2 : b = a
        · rw [h2, upd_same, upd_same]
        · rw [upd_ne h2, upd_ne h2, upd_ne h1, upd_ne h1]
    rw [e0]
    refine hk G _ dx _ (Ex.refl G) (ex_put hG ga hd) (fun b _ h2 => h2) (keep_put (Ex.refl A) hd) hd (ex_out hG hd) upd_same (by rw [upd_ne hda, upd_same]) fun i g e h1 h2 => ?_
    match i, h1, h2 with
    | 0, h1, h2 =>
      obtain rfl : "one" = g := Option.some.inj h1
      obtain rfl : d1 = e := Option.some.inj h2
      exact ⟨x, rfl, hx⟩
    | 1, h1, h2 =>
      obtain rfl : "two" = g := Option.some.inj h1
      obtain rfl : d2 = e := Option.some.inj h2
      exact ⟨y, rfl, hy⟩
    | i + 2, h1, _ => simp [flT] at h1
abbrev s_UnknownName___init__ : Stmt := inClass (topS 8) 0
theorem sc_UnknownName___init__ : FnScope ["self", "name"] ["self", "name"] (defScope s_UnknownName___init__) := ⟨rfl, rfl, rfl, by decide +kernel, rfl, by decide +kernel, by decide +kernel⟩

theorem ok_i4 {Cs fs : Nat → Addr} {CS f : Addr} {fd : FuncData} (T : Txt K mg) (TE : ErAll K mg Cs fs CS) (F : Fun K "__init__" "UnknownName.__init__" s_UnknownName___init__ f fd) : FnOk P w K mg base CX0 6 f fd ["self", "name"] (spI K Cs 4) := by
  have sc := sc_UnknownName___init__
  refine F.ok sc (fun vs H Q E h => ?_) (fun cdv Ar outer s A vs Q E hr h => ?_)
  · obtain ⟨a, ws, ds, G, rfl, hl, _, _, _, hv, _⟩ := h
    have q1 := hv.len
    have q2 : ds.length = 1 := hl
    show ws.length + 1 = 2
    omega
  obtain ⟨a, ws, ds, G, rfl, hl, hG, ha, ga, hv, hok, hk⟩ := h
  match ds, hl, hv, hok, hk with
  | [d], _, hv, hok, hk =>
    rcases hv with _ | ⟨hx, _ | _⟩
    refine ⟨_, (pss_one (ps_ost (pv 0) (pv 1))), ?_⟩
    have o := hok d (List.mem_singleton.mpr rfl)
    exact ost_one (TE.ox 4 (by decide)) (TE.nr 4 (by decide) _ (by decide)) (ef_var rfl hx) hG ha ga rfl hk
abbrev s_BadStep___init__ : Stmt := inClass (topS 9) 0
theorem sc_BadStep___init__ : FnScope ["self", "index"] ["self", "index"] (defScope s_BadStep___init__) := ⟨rfl, rfl, rfl, by decide +kernel, rfl, by decide +kernel, by decide +kernel⟩

theorem ok_i5 {Cs fs : Nat → Addr} {CS f : Addr} {fd : FuncData} (T : Txt K mg) (TE : ErAll K mg Cs fs CS) (F : Fun K "__init__" "BadStep.__init__" s_BadStep___init__ f fd) : FnOk P w K mg base CX0 6 f fd ["self", "index"] (spI K Cs 5) := by
  have sc := sc_BadStep___init__
  refine F.ok sc (fun vs H Q E h => ?_) (fun cdv Ar outer s A vs Q E hr h => ?_)
  · obtain ⟨a, ws, ds, G, rfl, hl, _, _, _, hv, _⟩ := h
    have q1 := hv.len
    have q2 : ds.length = 1 := hl
    show ws.length + 1 = 2
    omega
  obtain ⟨a, ws, ds, G, rfl, hl, hG, ha, ga, hv, hok, hk⟩ := h
  match ds, hl, hv, hok, hk with
  | [d], _, hv, hok, hk =>
    rcases hv with _ | ⟨hx, _ | _⟩
    refine ⟨_, (pss_one (ps_ost (pv 0) (pv 1))), ?_⟩
    have o := hok d (List.mem_singleton.mpr rfl)
    exact ost_one (TE.ox 5 (by decide)) (TE.nr 5 (by decide) _ (by decide)) (ef_var rfl hx) hG ha ga rfl hk
abbrev s_BadAtom___init__ : Stmt := inClass (topS 11) 0
theorem sc_BadAtom___init__ : FnScope ["self", "atom"] ["self", "atom"] (defScope s_BadAtom___init__) := ⟨rfl, rfl, rfl, by decide +kernel, rfl, by decide +kernel, by decide +kernel⟩

theorem ok_i7 {Cs fs : Nat → Addr} {CS f : Addr} {fd : FuncData} (T : Txt K mg) (TE : ErAll K mg Cs fs CS) (F : Fun K "__init__" "BadAtom.__init__" s_BadAtom___init__ f fd) (C_as_tuples : Has P w K mg base 5 "as_tuples" ["value"] (sp_tup K 5)) : FnOk P w K mg base CX0 6 f fd ["self", "atom"] (spI K Cs 7) := by
  have sc := sc_BadAtom___init__
  refine F.ok sc (fun vs H Q E h => ?_) (fun cdv Ar outer s A vs Q E hr h => ?_)
  · obtain ⟨a, ws, ds, G, rfl, hl, _, _, _, hv, _⟩ := h
    have q1 := hv.len
    have q2 : ds.length = 1 := hl
    show ws.length + 1 = 2
    omega
  obtain ⟨a, ws, ds, G, rfl, hl, hG, ha, ga, hv, hok, hk⟩ := h
  match ds, hl, hv, hok, hk with
  | [d], _, hv, hok, hk =>
    rcases hv with _ | ⟨hx, _ | _⟩
    refine ⟨_, (pss_one (ps_ost (pv 0) (pe_callH C_as_tuples (hr.mono (by decide)) (pa_cons (pv 1) pa_nil)))), ?_⟩
    have o := hok d (List.mem_singleton.mpr rfl)
    exact ost_one (TE.ox 7 (by decide)) (TE.nr 7 (by decide) _ (by decide)) (ef_call (ret := id) d (efa_cons (ef_var rfl hx) efa_nil) rfl o) hG ha ga rfl hk
abbrev s_NoOrder___init__ : Stmt := inClass (topS 12) 0
theorem sc_NoOrder___init__ : FnScope ["self", "row"] ["self", "row"] (defScope s_NoOrder___init__) := ⟨rfl, rfl, rfl, by decide +kernel, rfl, by decide +kernel, by decide +kernel⟩

theorem ok_i8 {Cs fs : Nat → Addr} {CS f : Addr} {fd : FuncData} (T : Txt K mg) (TE : ErAll K mg Cs fs CS) (F : Fun K "__init__" "NoOrder.__init__" s_NoOrder___init__ f fd) (C_as_tuples : Has P w K mg base 5 "as_tuples" ["value"] (sp_tup K 5)) : FnOk P w K mg base CX0 6 f fd ["self", "row"] (spI K Cs 8) := by
  have sc := sc_NoOrder___init__
  refine F.ok sc (fun vs H Q E h => ?_) (fun cdv Ar outer s A vs Q E hr h => ?_)
  · obtain ⟨a, ws, ds, G, rfl, hl, _, _, _, hv, _⟩ := h
    have q1 := hv.len
    have q2 : ds.length = 1 := hl
    show ws.length + 1 = 2
    omega
  obtain ⟨a, ws, ds, G, rfl, hl, hG, ha, ga, hv, hok, hk⟩ := h
  match ds, hl, hv, hok, hk with
  | [d], _, hv, hok, hk =>
    rcases hv with _ | ⟨hx, _ | _⟩
    refine ⟨_, (pss_one (ps_ost (pv 0) (pe_callH C_as_tuples (hr.mono (by decide)) (pa_cons (pv 1) pa_nil)))), ?_⟩
    have o := hok d (List.mem_singleton.mpr rfl)
    exact ost_one (TE.ox 8 (by decide)) (TE.nr 8 (by decide) _ (by decide)) (ef_call (ret := id) d (efa_cons (ef_var rfl hx) efa_nil) rfl o) hG ha ga rfl hk
abbrev s_BadWish___init__ : Stmt := inClass (topS 15) 0
theorem sc_BadWish___init__ : FnScope ["self", "index"] ["self", "index"] (defScope s_BadWish___init__) := ⟨rfl, rfl, rfl, by decide +kernel, rfl, by decide +kernel, by decide +kernel⟩

theorem ok_i11 {Cs fs : Nat → Addr} {CS f : Addr} {fd : FuncData} (T : Txt K mg) (TE : ErAll K mg Cs fs CS) (F : Fun K "__init__" "BadWish.__init__" s_BadWish___init__ f fd) : FnOk P w K mg base CX0 6 f fd ["self", "index"] (spI K Cs 11) := by
  have sc := sc_BadWish___init__
  refine F.ok sc (fun vs H Q E h => ?_) (fun cdv Ar outer s A vs Q E hr h => ?_)
  · obtain ⟨a, ws, ds, G, rfl, hl, _, _, _, hv, _⟩ := h
    have q1 := hv.len
    have q2 : ds.length = 1 := hl
    show ws.length + 1 = 2
    omega
  obtain ⟨a, ws, ds, G, rfl, hl, hG, ha, ga, hv, hok, hk⟩ := h
  match ds, hl, hv, hok, hk with
  | [d], _, hv, hok, hk =>
    rcases hv with _ | ⟨hx, _ | _⟩
    refine ⟨_, (pss_one (ps_ost (pv 0) (pv 1))), ?_⟩
    have o := hok d (List.mem_singleton.mpr rfl)
    exact ost_one (TE.ox 11 (by decide)) (TE.nr 11 (by decide) _ (by decide)) (ef_var rfl hx) hG ha ga rfl hk
abbrev s_BadShape___init__ : Stmt := inClass (topS 16) 0
theorem sc_BadShape___init__ : FnScope ["self", "index"] ["self", "index"] (defScope s_BadShape___init__) := ⟨rfl, rfl, rfl, by decide +kernel, rfl, by decide +kernel, by decide +kernel⟩

theorem ok_i12 {Cs fs : Nat → Addr} {CS f : Addr} {fd : FuncData} (T : Txt K mg) (TE : ErAll K mg Cs fs CS) (F : Fun K "__init__" "BadShape.__init__" s_BadShape___init__ f fd) : FnOk P w K mg base CX0 6 f fd ["self", "index"] (spI K Cs 12) := by
  have sc := sc_BadShape___init__
  refine F.ok sc (fun vs H Q E h => ?_) (fun cdv Ar outer s A vs Q E hr h => ?_)
  · obtain ⟨a, ws, ds, G, rfl, hl, _, _, _, hv, _⟩ := h
    have q1 := hv.len
    have q2 : ds.length = 1 := hl
    show ws.length + 1 = 2
    omega
  obtain ⟨a, ws, ds, G, rfl, hl, hG, ha, ga, hv, hok, hk⟩ := h
  match ds, hl, hv, hok, hk with
  | [d], _, hv, hok, hk =>
    rcases hv with _ | ⟨hx, _ | _⟩
    refine ⟨_, (pss_one (ps_ost (pv 0) (pv 1))), ?_⟩
    have o := hok d (List.mem_singleton.mpr rfl)
    exact ost_one (TE.ox 12 (by decide)) (TE.nr 12 (by decide) _ (by decide)) (ef_var rfl hx) hG ha ga rfl hk
abbrev s_BadSheet___init__ : Stmt := inClass (topS 17) 0
theorem sc_BadSheet___init__ : FnScope ["self", "sheet"] ["self", "sheet"] (defScope s_BadSheet___init__) := ⟨rfl, rfl, rfl, by decide +kernel, rfl, by decide +kernel, by decide +kernel⟩

theorem ok_i13 {Cs fs : Nat → Addr} {CS f : Addr} {fd : FuncData} (T : Txt K mg) (TE : ErAll K mg Cs fs CS) (F : Fun K "__init__" "BadSheet.__init__" s_BadSheet___init__ f fd) : FnOk P w K mg base CX0 6 f fd ["self", "sheet"] (spI K Cs 13) := by
  have sc := sc_BadSheet___init__
  refine F.ok sc (fun vs H Q E h => ?_) (fun cdv Ar outer s A vs Q E hr h => ?_)
  · obtain ⟨a, ws, ds, G, rfl, hl, _, _, _, hv, _⟩ := h
    have q1 := hv.len
    have q2 : ds.length = 1 := hl
    show ws.length + 1 = 2
    omega
  obtain ⟨a, ws, ds, G, rfl, hl, hG, ha, ga, hv, hok, hk⟩ := h
  match ds, hl, hv, hok, hk with
  | [d], _, hv, hok, hk =>
    rcases hv with _ | ⟨hx, _ | _⟩
    refine ⟨_, (pss_one (ps_ost (pv 0) (pv 1))), ?_⟩
    have o := hok d (List.mem_singleton.mpr rfl)
    exact ost_one (TE.ox 13 (by decide)) (TE.nr 13 (by decide) _ (by decide)) (ef_var rfl hx) hG ha ga rfl hk
abbrev s_BadCount___init__ : Stmt := inClass (topS 20) 0
theorem sc_BadCount___init__ : FnScope ["self", "count"] ["self", "count"] (defScope s_BadCount___init__) := ⟨rfl, rfl, rfl, by decide +kernel, rfl, by decide +kernel, by decide +kernel⟩

theorem ok_i16 {Cs fs : Nat → Addr} {CS f : Addr} {fd : FuncData} (T : Txt K mg) (TE : ErAll K mg Cs fs CS) (F : Fun K "__init__" "BadCount.__init__" s_BadCount___init__ f fd) : FnOk P w K mg base CX0 6 f fd ["self", "count"] (spI K Cs 16) := by
  have sc := sc_BadCount___init__
  refine F.ok sc (fun vs H Q E h => ?_) (fun cdv Ar outer s A vs Q E hr h => ?_)
  · obtain ⟨a, ws, ds, G, rfl, hl, _, _, _, hv, _⟩ := h
    have q1 := hv.len
    have q2 : ds.length = 1 := hl
    show ws.length + 1 = 2
    omega
  obtain ⟨a, ws, ds, G, rfl, hl, hG, ha, ga, hv, hok, hk⟩ := h
  match ds, hl, hv, hok, hk with
  | [d], _, hv, hok, hk =>
    rcases hv with _ | ⟨hx, _ | _⟩
    refine ⟨_, (pss_one (ps_ost (pv 0) (pv 1))), ?_⟩
    have o := hok d (List.mem_singleton.mpr rfl)
    exact ost_one (TE.ox 16 (by decide)) (TE.nr 16 (by decide) _ (by decide)) (ef_var rfl hx) hG ha ga rfl hk
abbrev s_CannotMake___init__ : Stmt := inClass (topS 21) 0
theorem sc_CannotMake___init__ : FnScope ["self", "cells"] ["self", "cells"] (defScope s_CannotMake___init__) := ⟨rfl, rfl, rfl, by decide +kernel, rfl, by decide +kernel, by decide +kernel⟩

theorem ok_i17 {Cs fs : Nat → Addr} {CS f : Addr} {fd : FuncData} (T : Txt K mg) (TE : ErAll K mg Cs fs CS) (F : Fun K "__init__" "CannotMake.__init__" s_CannotMake___init__ f fd) (C_as_tuples : Has P w K mg base 5 "as_tuples" ["value"] (sp_tup K 5)) : FnOk P w K mg base CX0 6 f fd ["self", "cells"] (spI K Cs 17) := by
  have sc := sc_CannotMake___init__
  refine F.ok sc (fun vs H Q E h => ?_) (fun cdv Ar outer s A vs Q E hr h => ?_)
  · obtain ⟨a, ws, ds, G, rfl, hl, _, _, _, hv, _⟩ := h
    have q1 := hv.len
    have q2 : ds.length = 1 := hl
    show ws.length + 1 = 2
    omega
  obtain ⟨a, ws, ds, G, rfl, hl, hG, ha, ga, hv, hok, hk⟩ := h
  match ds, hl, hv, hok, hk with
  | [d], _, hv, hok, hk =>
    rcases hv with _ | ⟨hx, _ | _⟩
    refine ⟨_, (pss_one (ps_ost (pv 0) (pe_callH C_as_tuples (hr.mono (by decide)) (pa_cons (pv 1) pa_nil)))), ?_⟩
    have o := hok d (List.mem_singleton.mpr rfl)
    exact ost_one (TE.ox 17 (by decide)) (TE.nr 17 (by decide) _ (by decide)) (ef_call (ret := id) d (efa_cons (ef_var rfl hx) efa_nil) rfl o) hG ha ga rfl hk
abbrev s_Mismatch___init__ : Stmt := inClass (topS 22) 0
theorem sc_Mismatch___init__ : FnScope ["self", "cell"] ["self", "cell"] (defScope s_Mismatch___init__) := ⟨rfl, rfl, rfl, by decide +kernel, rfl, by decide +kernel, by decide +kernel⟩

theorem ok_i18 {Cs fs : Nat → Addr} {CS f : Addr} {fd : FuncData} (T : Txt K mg) (TE : ErAll K mg Cs fs CS) (F : Fun K "__init__" "Mismatch.__init__" s_Mismatch___init__ f fd) : FnOk P w K mg base CX0 6 f fd ["self", "cell"] (spI K Cs 18) := by
  have sc := sc_Mismatch___init__
  refine F.ok sc (fun vs H Q E h => ?_) (fun cdv Ar outer s A vs Q E hr h => ?_)
  · obtain ⟨a, ws, ds, G, rfl, hl, _, _, _, hv, _⟩ := h
    have q1 := hv.len
    have q2 : ds.length = 1 := hl
    show ws.length + 1 = 2
    omega
  obtain ⟨a, ws, ds, G, rfl, hl, hG, ha, ga, hv, hok, hk⟩ := h
  match ds, hl, hv, hok, hk with
  | [d], _, hv, hok, hk =>
    rcases hv with _ | ⟨hx, _ | _⟩
    refine ⟨_, (pss_one (ps_ost (pv 0) (pv 1))), ?_⟩
    have o := hok d (List.mem_singleton.mpr rfl)
    exact ost_one (TE.ox 18 (by decide)) (TE.nr 18 (by decide) _ (by decide)) (ef_var rfl hx) hG ha ga rfl hk
abbrev s_BadDeed___init__ : Stmt := inClass (topS 23) 0
theorem sc_BadDeed___init__ : FnScope ["self", "deed"] ["self", "deed"] (defScope s_BadDeed___init__) := ⟨rfl, rfl, rfl, by decide +kernel, rfl, by decide +kernel, by decide +kernel⟩

theorem ok_i19 {Cs fs : Nat → Addr} {CS f : Addr} {fd : FuncData} (T : Txt K mg) (TE : ErAll K mg Cs fs CS) (F : Fun K "__init__" "BadDeed.__init__" s_BadDeed___init__ f fd) (C_as_tuples : Has P w K mg base 5 "as_tuples" ["value"] (sp_tup K 5)) : FnOk P w K mg base CX0 6 f fd ["self", "deed"] (spI K Cs 19) := by
  have sc := sc_BadDeed___init__
  refine F.ok sc (fun vs H Q E h => ?_) (fun cdv Ar outer s A vs Q E hr h => ?_)
  · obtain ⟨a, ws, ds, G, rfl, hl, _, _, _, hv, _⟩ := h
    have q1 := hv.len
    have q2 : ds.length = 1 := hl
    show ws.length + 1 = 2
    omega
  obtain ⟨a, ws, ds, G, rfl, hl, hG, ha, ga, hv, hok, hk⟩ := h
  match ds, hl, hv, hok, hk with
  | [d], _, hv, hok, hk =>
    rcases hv with _ | ⟨hx, _ | _⟩
    refine ⟨_, (pss_one (ps_ost (pv 0) (pe_callH C_as_tuples (hr.mono (by decide)) (pa_cons (pv 1) pa_nil)))), ?_⟩
    have o := hok d (List.mem_singleton.mpr rfl)
    exact ost_one (TE.ox 19 (by decide)) (TE.nr 19 (by decide) _ (by decide)) (ef_call (ret := id) d (efa_cons (ef_var rfl hx) efa_nil) rfl o) hG ha ga rfl hk
abbrev s_BadNote___init__ : Stmt := inClass (topS 24) 0
theorem sc_BadNote___init__ : FnScope ["self", "line"] ["self", "line"] (defScope s_BadNote___init__) := ⟨rfl, rfl, rfl, by decide +kernel, rfl, by decide +kernel, by decide +kernel⟩

theorem ok_i20 {Cs fs : Nat → Addr} {CS f : Addr} {fd : FuncData} (T : Txt K mg) (TE : ErAll K mg Cs fs CS) (F : Fun K "__init__" "BadNote.__init__" s_BadNote___init__ f fd) : FnOk P w K mg base CX0 6 f fd ["self", "line"] (spI K Cs 20) := by
  have sc := sc_BadNote___init__
  refine F.ok sc (fun vs H Q E h => ?_) (fun cdv Ar outer s A vs Q E hr h => ?_)
  · obtain ⟨a, ws, ds, G, rfl, hl, _, _, _, hv, _⟩ := h
    have q1 := hv.len
    have q2 : ds.length = 1 := hl
    show ws.length + 1 = 2
    omega
  obtain ⟨a, ws, ds, G, rfl, hl, hG, ha, ga, hv, hok, hk⟩ := h
  match ds, hl, hv, hok, hk with
  | [d], _, hv, hok, hk =>
    rcases hv with _ | ⟨hx, _ | _⟩
    refine ⟨_, (pss_one (ps_ost (pv 0) (pv 1))), ?_⟩
    have o := hok d (List.mem_singleton.mpr rfl)
    exact ost_one (TE.ox 20 (by decide)) (TE.nr 20 (by decide) _ (by decide)) (ef_var rfl hx) hG ha ga rfl hk
end
end Mi

set_option maxHeartbeats 4000000
namespace Mi
open PySem PySem.Spec PyProof.Rows L2 Evl
local macro_rules | `(tactic| walk_at "side") => `(tactic| (first | assumption | omega | exact rfl | decide | (simp only [List.length_cons, List.length_nil, List.length_map, List.length_append, List.length_replicate] <;> omega)))
local macro_rules | `(tactic| walk_at "ro") => `(tactic| (first
  | with_reducible exact ro_I0
  | with_reducible exact ro_1018
  | with_reducible exact ro_neC
  | with_reducible exact ro_eqC
  | with_reducible exact ro_neI
  | with_reducible exact ro_eqI
  | with_reducible exact ro_neB
  | with_reducible exact ro_eqB
  | ((with_reducible apply ro_mod); (walk_at "side"))
  | ((with_reducible apply ro_div) <;> (walk_at "side"))
  | ((with_reducible apply ro_divW) <;> (walk_at "side"))
  | with_reducible exact ro_1012
  | with_reducible exact ro_1015
  | ((with_reducible apply ro_mulL) <;> (walk_at "side"))
  | ((with_reducible apply ro_mulR) <;> (walk_at "side"))
  | ((with_reducible apply ro_addC); (walk_at "side"))
  | ((with_reducible apply ro_ixC) <;> (walk_at "side"))
  | ((with_reducible apply ro_ixI) <;> (walk_at "side"))
  | ((with_reducible apply ro_ixIN) <;> (walk_at "side"))
  | ((with_reducible apply ro_ixT2) <;> (walk_at "side"))
  | ((with_reducible apply ro_ixG) <;> (walk_at "side"))
  | ((with_reducible apply ro_eq); exact rfl)
  | ((with_reducible apply ro_ne); exact rfl)
  | with_reducible exact ro_isN
  | with_reducible exact ro_notN
  | with_reducible exact ro_eqL
  | with_reducible exact ro_neL
  | with_reducible exact ro_eqU
  | ((with_reducible apply ro_cat); (walk_at "side"))
  | with_reducible exact ro_inLi
  | with_reducible exact ro_inNi
  | with_reducible exact ro_inUi
  | ((with_reducible apply ro_inL) <;> (walk_at "side"))
  | ((with_reducible apply ro_inN) <;> (walk_at "side"))
  | ((with_reducible apply ro_inU) <;> (walk_at "side"))))
local macro_rules | `(tactic| walk_at "rc") => `(tactic| (first
  | with_reducible exact rc_int
  | with_reducible exact rc_intB
  | with_reducible exact rc_max2
  | ((with_reducible apply rc_lenC); (walk_at "side"))
  | with_reducible exact rc_lenI
  | with_reducible exact rc_lenT
  | with_reducible exact rc_lenIN
  | with_reducible exact rc_lenTN
  | with_reducible exact rc_lenL
  | with_reducible exact rc_lenN
  | with_reducible exact rc_lenU
  | with_reducible exact rc_listL
  | with_reducible exact rc_listU
  | with_reducible exact rc_tupL
  | with_reducible exact rc_tupN
  | ((with_reducible apply rc_isi_int); decide +kernel)
  | ((with_reducible apply rc_isi_str); decide +kernel)
  | ((with_reducible apply rc_isi_bl); decide +kernel)
  | ((with_reducible apply rc_isi_non); decide +kernel)
  | ((with_reducible apply rc_isi_u); decide +kernel)
  | ((with_reducible apply rc_isi_l); decide +kernel)))
local macro_rules | `(tactic| walk_at "er") => `(tactic| (first
  | ((with_reducible apply er_var); (exact rfl); assumption)
  | ((with_reducible apply er_v); exact rfl)
  | with_reducible exact er_c
  | ((with_reducible apply er_pick); (walk_at "er"); (walk_at "er"); (walk_at "er"))
  | ((with_reducible apply er_op); (walk_at "er"); (walk_at "er"); (walk_at "ro"))
  | ((with_reducible apply er_cb); (walk_at "era"); (walk_at "rc"))
  | ((with_reducible apply er_lst'); (walk_at "era"); (exact rfl); (walk_at "side"))
  | ((with_reducible apply er_tup'); (walk_at "era"); (exact rfl); (walk_at "side"))
  | ((with_reducible apply er_notV); (walk_at "er"))
  | ((with_reducible apply er_andV); (walk_at "er"); (intro _; (walk_at "er")))
  | ((with_reducible apply er_orV); (walk_at "er"); (intro _; (walk_at "er")))
  | ((with_reducible apply er_ite); (walk_at "et"); (intro _; (walk_at "er")); (intro _; (walk_at "er")))))
local macro_rules | `(tactic| walk_at "era") => `(tactic| (first
  | with_reducible exact era_nil
  | ((with_reducible apply era_cons); (walk_at "er"); (walk_at "era"))))
local macro_rules | `(tactic| walk_at "et") => `(tactic| (first
  | ((with_reducible apply et_an); (walk_at "et"); (intro _; (walk_at "et")))
  | ((with_reducible apply et_orr); (walk_at "et"); (intro _; (walk_at "et")))
  | ((with_reducible apply et_nt); (walk_at "et"))
  | ((with_reducible apply et1); (walk_at "er"))
  | ((with_reducible apply et2); (walk_at "er"))))

section
variable {P : Program} {w : World} {K : PySem.W.Frag} {mg : Str → Option Value} {base : Heap}
/-! ### what an error is made of -/
structure GvK (ds : List Dd) : Prop where
  l : ds.length = 6
  ok : ∀ d ∈ ds, okI d ∧ okPy 60 d
def flD (w : Nat) (ds : List Dd) : List Dd := (ixT w).map fun k => ds.getD k .D
abbrev erD (K : PySem.W.Frag) (Cs : Nat → Addr) (w : Nat) (ds : List Dd) : Dd := exD K (Cs w) (flT w) (flD w ds)
abbrev EA := Nat × List Dd
abbrev sp__law_made (K : PySem.W.Frag) (Cs : Nat → Addr) : Sp := spF K (fun a : EA => a.1 < 22 ∧ GvK a.2) (fun a => [.i (a.1 : Int), .L a.2]) fun a => erD K Cs a.1 a.2
theorem six {ds : List Dd} (h : ds.length = 6) : ∃ d0 d1 d2 d3 d4 d5, ds = [d0, d1, d2, d3, d4, d5] := by
  match ds, h with
  | [a, b, c, d, e, f], _ => exact ⟨a, b, c, d, e, f, rfl⟩
abbrev s__law_made : Stmt := topS 30
theorem sc__law_made : FnScope ["which", "given"] ["which", "given"] (defScope s__law_made) := ⟨rfl, rfl, rfl, by decide +kernel, rfl, by decide +kernel, by decide +kernel⟩

theorem has__law_made {Cs fs : Nat → Addr} {fds : Nat → FuncData} {CS : Addr} (T : Txt K mg) (TE : ErAll K mg Cs fs CS) (F_E : InitAll P w K mg base Cs fs fds) (h : At K mg "_law_made" s__law_made ["which", "given"]) : Has P w K mg base 8 "_law_made" ["which", "given"] (sp__law_made K Cs) := by
  refine h.hasF sc__law_made (fun _ => rfl) fun f cdv Ar outer s G A ar vs Q E hr hp hA hv hk => ?_
  obtain ⟨wh, ds⟩ := ar
  obtain ⟨hw, hg⟩ := hp
  replace hw : wh < 22 := hw
  rcases hv with _ | ⟨rfl, _ | ⟨hx, _ | _⟩⟩
  rename_i xg
  obtain ⟨d0, d1, d2, d3, d4, d5, rfl⟩ := six hg.l
  replace hx : Is K G (.L [d0, d1, d2, d3, d4, d5]) xg := hx
  have sc := sc__law_made
  refine ⟨_, (pss_cons (ps_if (pt_cmpR op_eq (pv 0) pe_int (nomark _)) (pss_one (ps_ret (pe_mkE (TE.ox 0 (by decide)) (TE.iC 0 (by decide) (by decide)) (TE.tI 0 (by decide) (by decide)) (F_E 0 (by decide) (by decide)).1 (hr.mono (by decide)) (F_E 0 (by decide) (by decide)).2 TE.g0 (pa_cons (pe_ix (ix_list_k (K := K)) (pv 1) pe_int (fun _ _ => rfl)) pa_nil)))) pss_nil)
    (pss_cons (ps_if (pt_cmpR op_eq (pv 0) pe_int (nomark _)) (pss_one (ps_ret (pe_mkE (TE.ox 1 (by decide)) (TE.iC 1 (by decide) (by decide)) (TE.tI 1 (by decide) (by decide)) (F_E 1 (by decide) (by decide)).1 (hr.mono (by decide)) (F_E 1 (by decide) (by decide)).2 TE.g1 (pa_cons (pe_ix (ix_list_k (K := K)) (pv 1) pe_int (fun _ _ => rfl)) pa_nil)))) pss_nil)
    (pss_cons (ps_if (pt_cmpR op_eq (pv 0) pe_int (nomark _)) (pss_one (ps_ret (pe_mkE (TE.ox 2 (by decide)) (TE.iC 2 (by decide) (by decide)) (TE.tI 2 (by decide) (by decide)) (F_E 2 (by decide) (by decide)).1 (hr.mono (by decide)) (F_E 2 (by decide) (by decide)).2 TE.g2 (pa_cons (pe_ix (ix_list_k (K := K)) (pv 1) pe_int (fun _ _ => rfl)) pa_nil)))) pss_nil)
    (pss_cons (ps_if (pt_cmpR op_eq (pv 0) pe_int (nomark _)) (pss_one (ps_ret (pe_mkE (TE.ox 3 (by decide)) (TE.iC 3 (by decide) (by decide)) (TE.tI 3 (by decide) (by decide)) (F_E 3 (by decide) (by decide)).1 (hr.mono (by decide)) (F_E 3 (by decide) (by decide)).2 TE.g3 (pa_cons (pe_ix (ix_list_k (K := K)) (pv 1) pe_int (fun _ _ => rfl)) (pa_cons (pe_ix (ix_list_k (K := K)) (pv 1) pe_int (fun _ _ => rfl)) pa_nil))))) pss_nil)
    (pss_cons (ps_if (pt_cmpR op_eq (pv 0) pe_int (nomark _)) (pss_one (ps_ret (pe_mkE (TE.ox 4 (by decide)) (TE.iC 4 (by decide) (by decide)) (TE.tI 4 (by decide) (by decide)) (F_E 4 (by decide) (by decide)).1 (hr.mono (by decide)) (F_E 4 (by decide) (by decide)).2 TE.g4 (pa_cons (pe_ix (ix_list_k (K := K)) (pv 1) pe_int (fun _ _ => rfl)) pa_nil)))) pss_nil)
    (pss_cons (ps_if (pt_cmpR op_eq (pv 0) pe_int (nomark _)) (pss_one (ps_ret (pe_mkE (TE.ox 5 (by decide)) (TE.iC 5 (by decide) (by decide)) (TE.tI 5 (by decide) (by decide)) (F_E 5 (by decide) (by decide)).1 (hr.mono (by decide)) (F_E 5 (by decide) (by decide)).2 TE.g5 (pa_cons (pe_ix (ix_list_k (K := K)) (pv 1) pe_int (fun _ _ => rfl)) pa_nil)))) pss_nil)
    (pss_cons (ps_if (pt_cmpR op_eq (pv 0) pe_int (nomark _)) (pss_one (ps_ret (pe_mkE0 F.excBase_ValueError (TE.e0 6 (by decide) rfl) TE.g6 (TE.ox 6 (by decide)).kC))) pss_nil)
    (pss_cons (ps_if (pt_cmpR op_eq (pv 0) pe_int (nomark _)) (pss_one (ps_ret (pe_mkE (TE.ox 7 (by decide)) (TE.iC 7 (by decide) (by decide)) (TE.tI 7 (by decide) (by decide)) (F_E 7 (by decide) (by decide)).1 (hr.mono (by decide)) (F_E 7 (by decide) (by decide)).2 TE.g7 (pa_cons (pe_ix (ix_list_k (K := K)) (pv 1) pe_int (fun _ _ => rfl)) pa_nil)))) pss_nil)
    (pss_cons (ps_if (pt_cmpR op_eq (pv 0) pe_int (nomark _)) (pss_one (ps_ret (pe_mkE (TE.ox 8 (by decide)) (TE.iC 8 (by decide) (by decide)) (TE.tI 8 (by decide) (by decide)) (F_E 8 (by decide) (by decide)).1 (hr.mono (by decide)) (F_E 8 (by decide) (by decide)).2 TE.g8 (pa_cons (pe_ix (ix_list_k (K := K)) (pv 1) pe_int (fun _ _ => rfl)) pa_nil)))) pss_nil)
    (pss_cons (ps_if (pt_cmpR op_eq (pv 0) pe_int (nomark _)) (pss_one (ps_ret (pe_mkE0 F.excBase_ValueError (TE.e0 9 (by decide) rfl) TE.g9 (TE.ox 9 (by decide)).kC))) pss_nil)
    (pss_cons (ps_if (pt_cmpR op_eq (pv 0) pe_int (nomark _)) (pss_one (ps_ret (pe_mkE0 F.excBase_ValueError (TE.e0 10 (by decide) rfl) TE.g10 (TE.ox 10 (by decide)).kC))) pss_nil)
    (pss_cons (ps_if (pt_cmpR op_eq (pv 0) pe_int (nomark _)) (pss_one (ps_ret (pe_mkE (TE.ox 11 (by decide)) (TE.iC 11 (by decide) (by decide)) (TE.tI 11 (by decide) (by decide)) (F_E 11 (by decide) (by decide)).1 (hr.mono (by decide)) (F_E 11 (by decide) (by decide)).2 TE.g11 (pa_cons (pe_ix (ix_list_k (K := K)) (pv 1) pe_int (fun _ _ => rfl)) pa_nil)))) pss_nil)
    (pss_cons (ps_if (pt_cmpR op_eq (pv 0) pe_int (nomark _)) (pss_one (ps_ret (pe_mkE (TE.ox 12 (by decide)) (TE.iC 12 (by decide) (by decide)) (TE.tI 12 (by decide) (by decide)) (F_E 12 (by decide) (by decide)).1 (hr.mono (by decide)) (F_E 12 (by decide) (by decide)).2 TE.g12 (pa_cons (pe_ix (ix_list_k (K := K)) (pv 1) pe_int (fun _ _ => rfl)) pa_nil)))) pss_nil)
    (pss_cons (ps_if (pt_cmpR op_eq (pv 0) pe_int (nomark _)) (pss_one (ps_ret (pe_mkE (TE.ox 13 (by decide)) (TE.iC 13 (by decide) (by decide)) (TE.tI 13 (by decide) (by decide)) (F_E 13 (by decide) (by decide)).1 (hr.mono (by decide)) (F_E 13 (by decide) (by decide)).2 TE.g13 (pa_cons (pe_ix (ix_list_k (K := K)) (pv 1) pe_int (fun _ _ => rfl)) pa_nil)))) pss_nil)
    (pss_cons (ps_if (pt_cmpR op_eq (pv 0) pe_int (nomark _)) (pss_one (ps_ret (pe_mkE0 F.excBase_ValueError (TE.e0 14 (by decide) rfl) TE.g14 (TE.ox 14 (by decide)).kC))) pss_nil)
    (pss_cons (ps_if (pt_cmpR op_eq (pv 0) pe_int (nomark _)) (pss_one (ps_ret (pe_mkE0 F.excBase_ValueError (TE.e0 15 (by decide) rfl) TE.g15 (TE.ox 15 (by decide)).kC))) pss_nil)
    (pss_cons (ps_if (pt_cmpR op_eq (pv 0) pe_int (nomark _)) (pss_one (ps_ret (pe_mkE (TE.ox 16 (by decide)) (TE.iC 16 (by decide) (by decide)) (TE.tI 16 (by decide) (by decide)) (F_E 16 (by decide) (by decide)).1 (hr.mono (by decide)) (F_E 16 (by decide) (by decide)).2 TE.g16 (pa_cons (pe_ix (ix_list_k (K := K)) (pv 1) pe_int (fun _ _ => rfl)) pa_nil)))) pss_nil)
    (pss_cons (ps_if (pt_cmpR op_eq (pv 0) pe_int (nomark _)) (pss_one (ps_ret (pe_mkE (TE.ox 17 (by decide)) (TE.iC 17 (by decide) (by decide)) (TE.tI 17 (by decide) (by decide)) (F_E 17 (by decide) (by decide)).1 (hr.mono (by decide)) (F_E 17 (by decide) (by decide)).2 TE.g17 (pa_cons (pe_ix (ix_list_k (K := K)) (pv 1) pe_int (fun _ _ => rfl)) pa_nil)))) pss_nil)
    (pss_cons (ps_if (pt_cmpR op_eq (pv 0) pe_int (nomark _)) (pss_one (ps_ret (pe_mkE (TE.ox 18 (by decide)) (TE.iC 18 (by decide) (by decide)) (TE.tI 18 (by decide) (by decide)) (F_E 18 (by decide) (by decide)).1 (hr.mono (by decide)) (F_E 18 (by decide) (by decide)).2 TE.g18 (pa_cons (pe_ix (ix_list_k (K := K)) (pv 1) pe_int (fun _ _ => rfl)) pa_nil)))) pss_nil)
    (pss_cons (ps_if (pt_cmpR op_eq (pv 0) pe_int (nomark _)) (pss_one (ps_ret (pe_mkE (TE.ox 19 (by decide)) (TE.iC 19 (by decide) (by decide)) (TE.tI 19 (by decide) (by decide)) (F_E 19 (by decide) (by decide)).1 (hr.mono (by decide)) (F_E 19 (by decide) (by decide)).2 TE.g19 (pa_cons (pe_ix (ix_list_k (K := K)) (pv 1) pe_int (fun _ _ => rfl)) pa_nil)))) pss_nil)
    (pss_cons (ps_if (pt_cmpR op_eq (pv 0) pe_int (nomark _)) (pss_one (ps_ret (pe_mkE (TE.ox 20 (by decide)) (TE.iC 20 (by decide) (by decide)) (TE.tI 20 (by decide) (by decide)) (F_E 20 (by decide) (by decide)).1 (hr.mono (by decide)) (F_E 20 (by decide) (by decide)).2 TE.g20 (pa_cons (pe_ix (ix_list_k (K := K)) (pv 1) pe_int (fun _ _ => rfl)) pa_nil)))) pss_nil)
    (pss_cons (ps_if (pt_cmpR op_eq (pv 0) pe_int (nomark _)) (pss_one (ps_ret (pe_mkE0 F.excBase_ValueError (TE.e0 21 (by decide) rfl) TE.g21 (TE.ox 21 (by decide)).kC))) pss_nil)
    (pss_one (ps_ret pe_non)))))))))))))))))))))))), ?_⟩
  refine a_when (K := K) (b := decide ((wh : Int) = 0)) (et1 (er_op (er_v rfl) er_c ro_eqI)) (fun hb B e => ?_) fun hb0 A1 e1 => ?_
  · obtain rfl : wh = 0 := by have := of_decide_eq_true hb; omega
    exact s_ret (K := K) (G := G) (ef_mkE (fl := flT 0) (ok := okI) (efa_cons (ef_op (ef_var rfl hx) (ef_flat er_c) (rf_ixL (i := 0) rfl)) efa_nil) rfl (by decide) (fun e he => (hg.ok e (by revert he; simp; intro z; simp [z])).1)) (hA.trans e) rfl fun v G' A' st z => hk v G' A' ((Step.on hA (e)).trans st) z
  have E1 : Ex G A1 := hA.trans e1
  have F1 : Ex A A1 := e1
  refine a_when (K := K) (b := decide ((wh : Int) = 1)) (et1 (er_op (er_v rfl) er_c ro_eqI)) (fun hb B e => ?_) fun hb1 A2 e2 => ?_
  · obtain rfl : wh = 1 := by have := of_decide_eq_true hb; omega
    exact s_ret (K := K) (G := G) (ef_mkE (fl := flT 1) (ok := okI) (efa_cons (ef_op (ef_var rfl hx) (ef_flat er_c) (rf_ixL (i := 0) rfl)) efa_nil) rfl (by decide) (fun e he => (hg.ok e (by revert he; simp; intro z; simp [z])).1)) (E1.trans e) rfl fun v G' A' st z => hk v G' A' ((Step.on hA (F1.trans e)).trans st) z
  have E2 : Ex G A2 := E1.trans e2
  have F2 : Ex A A2 := F1.trans e2
  refine a_when (K := K) (b := decide ((wh : Int) = 2)) (et1 (er_op (er_v rfl) er_c ro_eqI)) (fun hb B e => ?_) fun hb2 A3 e3 => ?_
  · obtain rfl : wh = 2 := by have := of_decide_eq_true hb; omega
    exact s_ret (K := K) (G := G) (ef_mkE (fl := flT 2) (ok := okI) (efa_cons (ef_op (ef_var rfl hx) (ef_flat er_c) (rf_ixL (i := 2) rfl)) efa_nil) rfl (by decide) (fun e he => (hg.ok e (by revert he; simp; intro z; simp [z])).1)) (E2.trans e) rfl fun v G' A' st z => hk v G' A' ((Step.on hA (F2.trans e)).trans st) z
  have E3 : Ex G A3 := E2.trans e3
  have F3 : Ex A A3 := F2.trans e3
  refine a_when (K := K) (b := decide ((wh : Int) = 3)) (et1 (er_op (er_v rfl) er_c ro_eqI)) (fun hb B e => ?_) fun hb3 A4 e4 => ?_
  · obtain rfl : wh = 3 := by have := of_decide_eq_true hb; omega
    exact s_ret (K := K) (G := G) (ef_mkE (fl := flT 3) (ok := okI) (efa_cons (ef_op (ef_var rfl hx) (ef_flat er_c) (rf_ixL (i := 0) rfl)) (efa_cons (ef_op (ef_var rfl hx) (ef_flat er_c) (rf_ixL (i := 1) rfl)) efa_nil)) rfl (by decide) (fun e he => (hg.ok e (by revert he; simp; rintro (z | z) <;> simp [z])).1)) (E3.trans e) rfl fun v G' A' st z => hk v G' A' ((Step.on hA (F3.trans e)).trans st) z
  have E4 : Ex G A4 := E3.trans e4
  have F4 : Ex A A4 := F3.trans e4
  refine a_when (K := K) (b := decide ((wh : Int) = 4)) (et1 (er_op (er_v rfl) er_c ro_eqI)) (fun hb B e => ?_) fun hb4 A5 e5 => ?_
  · obtain rfl : wh = 4 := by have := of_decide_eq_true hb; omega
    exact s_ret (K := K) (G := G) (ef_mkE (fl := flT 4) (ok := okI) (efa_cons (ef_op (ef_var rfl hx) (ef_flat er_c) (rf_ixL (i := 2) rfl)) efa_nil) rfl (by decide) (fun e he => (hg.ok e (by revert he; simp; intro z; simp [z])).1)) (E4.trans e) rfl fun v G' A' st z => hk v G' A' ((Step.on hA (F4.trans e)).trans st) z
  have E5 : Ex G A5 := E4.trans e5
  have F5 : Ex A A5 := F4.trans e5
  refine a_when (K := K) (b := decide ((wh : Int) = 5)) (et1 (er_op (er_v rfl) er_c ro_eqI)) (fun hb B e => ?_) fun hb5 A6 e6 => ?_
  · obtain rfl : wh = 5 := by have := of_decide_eq_true hb; omega
    exact s_ret (K := K) (G := G) (ef_mkE (fl := flT 5) (ok := okI) (efa_cons (ef_op (ef_var rfl hx) (ef_flat er_c) (rf_ixL (i := 0) rfl)) efa_nil) rfl (by decide) (fun e he => (hg.ok e (by revert he; simp; intro z; simp [z])).1)) (E5.trans e) rfl fun v G' A' st z => hk v G' A' ((Step.on hA (F5.trans e)).trans st) z
  have E6 : Ex G A6 := E5.trans e6
  have F6 : Ex A A6 := F5.trans e6
  refine a_when (K := K) (b := decide ((wh : Int) = 6)) (et1 (er_op (er_v rfl) er_c ro_eqI)) (fun hb B e => ?_) fun hb6 A7 e7 => ?_
  · obtain rfl : wh = 6 := by have := of_decide_eq_true hb; omega
    exact s_ret (K := K) (G := G) (ef_mkE0 (ds := [])) (E6.trans e) rfl fun v G' A' st z => hk v G' A' ((Step.on hA (F6.trans e)).trans st) z
  have E7 : Ex G A7 := E6.trans e7
  have F7 : Ex A A7 := F6.trans e7
  refine a_when (K := K) (b := decide ((wh : Int) = 7)) (et1 (er_op (er_v rfl) er_c ro_eqI)) (fun hb B e => ?_) fun hb7 A8 e8 => ?_
  · obtain rfl : wh = 7 := by have := of_decide_eq_true hb; omega
    exact s_ret (K := K) (G := G) (ef_mkE (fl := flT 7) (ok := okI) (efa_cons (ef_op (ef_var rfl hx) (ef_flat er_c) (rf_ixL (i := 4) rfl)) efa_nil) rfl (by decide) (fun e he => (hg.ok e (by revert he; simp; intro z; simp [z])).1)) (E7.trans e) rfl fun v G' A' st z => hk v G' A' ((Step.on hA (F7.trans e)).trans st) z
  have E8 : Ex G A8 := E7.trans e8
  have F8 : Ex A A8 := F7.trans e8
  refine a_when (K := K) (b := decide ((wh : Int) = 8)) (et1 (er_op (er_v rfl) er_c ro_eqI)) (fun hb B e => ?_) fun hb8 A9 e9 => ?_
  · obtain rfl : wh = 8 := by have := of_decide_eq_true hb; omega
    exact s_ret (K := K) (G := G) (ef_mkE (fl := flT 8) (ok := okI) (efa_cons (ef_op (ef_var rfl hx) (ef_flat er_c) (rf_ixL (i := 3) rfl)) efa_nil) rfl (by decide) (fun e he => (hg.ok e (by revert he; simp; intro z; simp [z])).1)) (E8.trans e) rfl fun v G' A' st z => hk v G' A' ((Step.on hA (F8.trans e)).trans st) z
  have E9 : Ex G A9 := E8.trans e9
  have F9 : Ex A A9 := F8.trans e9
  refine a_when (K := K) (b := decide ((wh : Int) = 9)) (et1 (er_op (er_v rfl) er_c ro_eqI)) (fun hb B e => ?_) fun hb9 A10 e10 => ?_
  · obtain rfl : wh = 9 := by have := of_decide_eq_true hb; omega
    exact s_ret (K := K) (G := G) (ef_mkE0 (ds := [])) (E9.trans e) rfl fun v G' A' st z => hk v G' A' ((Step.on hA (F9.trans e)).trans st) z
  have E10 : Ex G A10 := E9.trans e10
  have F10 : Ex A A10 := F9.trans e10
  refine a_when (K := K) (b := decide ((wh : Int) = 10)) (et1 (er_op (er_v rfl) er_c ro_eqI)) (fun hb B e => ?_) fun hb10 A11 e11 => ?_
  · obtain rfl : wh = 10 := by have := of_decide_eq_true hb; omega
    exact s_ret (K := K) (G := G) (ef_mkE0 (ds := [])) (E10.trans e) rfl fun v G' A' st z => hk v G' A' ((Step.on hA (F10.trans e)).trans st) z
  have E11 : Ex G A11 := E10.trans e11
  have F11 : Ex A A11 := F10.trans e11
  refine a_when (K := K) (b := decide ((wh : Int) = 11)) (et1 (er_op (er_v rfl) er_c ro_eqI)) (fun hb B e => ?_) fun hb11 A12 e12 => ?_
  · obtain rfl : wh = 11 := by have := of_decide_eq_true hb; omega
    exact s_ret (K := K) (G := G) (ef_mkE (fl := flT 11) (ok := okI) (efa_cons (ef_op (ef_var rfl hx) (ef_flat er_c) (rf_ixL (i := 0) rfl)) efa_nil) rfl (by decide) (fun e he => (hg.ok e (by revert he; simp; intro z; simp [z])).1)) (E11.trans e) rfl fun v G' A' st z => hk v G' A' ((Step.on hA (F11.trans e)).trans st) z
  have E12 : Ex G A12 := E11.trans e12
  have F12 : Ex A A12 := F11.trans e12
  refine a_when (K := K) (b := decide ((wh : Int) = 12)) (et1 (er_op (er_v rfl) er_c ro_eqI)) (fun hb B e => ?_) fun hb12 A13 e13 => ?_
  · obtain rfl : wh = 12 := by have := of_decide_eq_true hb; omega
    exact s_ret (K := K) (G := G) (ef_mkE (fl := flT 12) (ok := okI) (efa_cons (ef_op (ef_var rfl hx) (ef_flat er_c) (rf_ixL (i := 0) rfl)) efa_nil) rfl (by decide) (fun e he => (hg.ok e (by revert he; simp; intro z; simp [z])).1)) (E12.trans e) rfl fun v G' A' st z => hk v G' A' ((Step.on hA (F12.trans e)).trans st) z
  have E13 : Ex G A13 := E12.trans e13
  have F13 : Ex A A13 := F12.trans e13
  refine a_when (K := K) (b := decide ((wh : Int) = 13)) (et1 (er_op (er_v rfl) er_c ro_eqI)) (fun hb B e => ?_) fun hb13 A14 e14 => ?_
  · obtain rfl : wh = 13 := by have := of_decide_eq_true hb; omega
    exact s_ret (K := K) (G := G) (ef_mkE (fl := flT 13) (ok := okI) (efa_cons (ef_op (ef_var rfl hx) (ef_flat er_c) (rf_ixL (i := 2) rfl)) efa_nil) rfl (by decide) (fun e he => (hg.ok e (by revert he; simp; intro z; simp [z])).1)) (E13.trans e) rfl fun v G' A' st z => hk v G' A' ((Step.on hA (F13.trans e)).trans st) z
  have E14 : Ex G A14 := E13.trans e14
  have F14 : Ex A A14 := F13.trans e14
  refine a_when (K := K) (b := decide ((wh : Int) = 14)) (et1 (er_op (er_v rfl) er_c ro_eqI)) (fun hb B e => ?_) fun hb14 A15 e15 => ?_
  · obtain rfl : wh = 14 := by have := of_decide_eq_true hb; omega
    exact s_ret (K := K) (G := G) (ef_mkE0 (ds := [])) (E14.trans e) rfl fun v G' A' st z => hk v G' A' ((Step.on hA (F14.trans e)).trans st) z
  have E15 : Ex G A15 := E14.trans e15
  have F15 : Ex A A15 := F14.trans e15
  refine a_when (K := K) (b := decide ((wh : Int) = 15)) (et1 (er_op (er_v rfl) er_c ro_eqI)) (fun hb B e => ?_) fun hb15 A16 e16 => ?_
  · obtain rfl : wh = 15 := by have := of_decide_eq_true hb; omega
    exact s_ret (K := K) (G := G) (ef_mkE0 (ds := [])) (E15.trans e) rfl fun v G' A' st z => hk v G' A' ((Step.on hA (F15.trans e)).trans st) z
  have E16 : Ex G A16 := E15.trans e16
  have F16 : Ex A A16 := F15.trans e16
  refine a_when (K := K) (b := decide ((wh : Int) = 16)) (et1 (er_op (er_v rfl) er_c ro_eqI)) (fun hb B e => ?_) fun hb16 A17 e17 => ?_
  · obtain rfl : wh = 16 := by have := of_decide_eq_true hb; omega
    exact s_ret (K := K) (G := G) (ef_mkE (fl := flT 16) (ok := okI) (efa_cons (ef_op (ef_var rfl hx) (ef_flat er_c) (rf_ixL (i := 0) rfl)) efa_nil) rfl (by decide) (fun e he => (hg.ok e (by revert he; simp; intro z; simp [z])).1)) (E16.trans e) rfl fun v G' A' st z => hk v G' A' ((Step.on hA (F16.trans e)).trans st) z
  have E17 : Ex G A17 := E16.trans e17
  have F17 : Ex A A17 := F16.trans e17
  refine a_when (K := K) (b := decide ((wh : Int) = 17)) (et1 (er_op (er_v rfl) er_c ro_eqI)) (fun hb B e => ?_) fun hb17 A18 e18 => ?_
  · obtain rfl : wh = 17 := by have := of_decide_eq_true hb; omega
    exact s_ret (K := K) (G := G) (ef_mkE (fl := flT 17) (ok := okI) (efa_cons (ef_op (ef_var rfl hx) (ef_flat er_c) (rf_ixL (i := 5) rfl)) efa_nil) rfl (by decide) (fun e he => (hg.ok e (by revert he; simp; intro z; simp [z])).1)) (E17.trans e) rfl fun v G' A' st z => hk v G' A' ((Step.on hA (F17.trans e)).trans st) z
  have E18 : Ex G A18 := E17.trans e18
  have F18 : Ex A A18 := F17.trans e18
  refine a_when (K := K) (b := decide ((wh : Int) = 18)) (et1 (er_op (er_v rfl) er_c ro_eqI)) (fun hb B e => ?_) fun hb18 A19 e19 => ?_
  · obtain rfl : wh = 18 := by have := of_decide_eq_true hb; omega
    exact s_ret (K := K) (G := G) (ef_mkE (fl := flT 18) (ok := okI) (efa_cons (ef_op (ef_var rfl hx) (ef_flat er_c) (rf_ixL (i := 0) rfl)) efa_nil) rfl (by decide) (fun e he => (hg.ok e (by revert he; simp; intro z; simp [z])).1)) (E18.trans e) rfl fun v G' A' st z => hk v G' A' ((Step.on hA (F18.trans e)).trans st) z
  have E19 : Ex G A19 := E18.trans e19
  have F19 : Ex A A19 := F18.trans e19
  refine a_when (K := K) (b := decide ((wh : Int) = 19)) (et1 (er_op (er_v rfl) er_c ro_eqI)) (fun hb B e => ?_) fun hb19 A20 e20 => ?_
  · obtain rfl : wh = 19 := by have := of_decide_eq_true hb; omega
    exact s_ret (K := K) (G := G) (ef_mkE (fl := flT 19) (ok := okI) (efa_cons (ef_op (ef_var rfl hx) (ef_flat er_c) (rf_ixL (i := 4) rfl)) efa_nil) rfl (by decide) (fun e he => (hg.ok e (by revert he; simp; intro z; simp [z])).1)) (E19.trans e) rfl fun v G' A' st z => hk v G' A' ((Step.on hA (F19.trans e)).trans st) z
  have E20 : Ex G A20 := E19.trans e20
  have F20 : Ex A A20 := F19.trans e20
  refine a_when (K := K) (b := decide ((wh : Int) = 20)) (et1 (er_op (er_v rfl) er_c ro_eqI)) (fun hb B e => ?_) fun hb20 A21 e21 => ?_
  · obtain rfl : wh = 20 := by have := of_decide_eq_true hb; omega
    exact s_ret (K := K) (G := G) (ef_mkE (fl := flT 20) (ok := okI) (efa_cons (ef_op (ef_var rfl hx) (ef_flat er_c) (rf_ixL (i := 0) rfl)) efa_nil) rfl (by decide) (fun e he => (hg.ok e (by revert he; simp; intro z; simp [z])).1)) (E20.trans e) rfl fun v G' A' st z => hk v G' A' ((Step.on hA (F20.trans e)).trans st) z
  have E21 : Ex G A21 := E20.trans e21
  have F21 : Ex A A21 := F20.trans e21
  refine a_when (K := K) (b := decide ((wh : Int) = 21)) (et1 (er_op (er_v rfl) er_c ro_eqI)) (fun hb B e => ?_) fun hb21 A22 e22 => ?_
  · obtain rfl : wh = 21 := by have := of_decide_eq_true hb; omega
    exact s_ret (K := K) (G := G) (ef_mkE0 (ds := [])) (E21.trans e) rfl fun v G' A' st z => hk v G' A' ((Step.on hA (F21.trans e)).trans st) z
  have E22 : Ex G A22 := E21.trans e22
  have F22 : Ex A A22 := F21.trans e22
  simp only [decide_eq_false_iff_not] at hb0 hb1 hb2 hb3 hb4 hb5 hb6 hb7 hb8 hb9 hb10 hb11 hb12 hb13 hb14 hb15 hb16 hb17 hb18 hb19 hb20 hb21
  exfalso
  omega
theorem flD_nil {w : Nat} {ds : List Dd} (h : flT w = []) (hw : w < 22) : flD w ds = [] := by
  have e : ∀ w, w < 22 → flT w = [] → ixT w = [] := by decide
  unfold flD
  rw [e w hw h]
  rfl
abbrev sp__law_fields (K : PySem.W.Frag) (Cs : Nat → Addr) : Sp := spR K (fun a : EA => a.1 < 22 ∧ GvK a.2) (fun a => [.i (a.1 : Int), erD K Cs a.1 a.2]) fun a => .N (flD a.1 a.2)
abbrev s__law_fields : Stmt := topS 31
theorem sc__law_fields : FnScope ["which", "error"] ["which", "error"] (defScope s__law_fields) := ⟨rfl, rfl, rfl, by decide +kernel, rfl, by decide +kernel, by decide +kernel⟩

theorem has__law_fields {Cs fs : Nat → Addr} {CS : Addr} (T : Txt K mg) (TE : ErAll K mg Cs fs CS) (h : At K mg "_law_fields" s__law_fields ["which", "error"]) : Has P w K mg base 1 "_law_fields" ["which", "error"] (sp__law_fields K Cs) := by
  refine h.hasR sc__law_fields (fun _ => rfl) fun f cdv A outer s H ar vs Q E hr hp hv hk => ?_
  obtain ⟨wh, ds⟩ := ar
  obtain ⟨hw, hg⟩ := hp
  replace hw : wh < 22 := hw
  rcases hv with _ | ⟨rfl, _ | ⟨hx, _ | _⟩⟩
  rename_i xe
  obtain ⟨d0, d1, d2, d3, d4, d5, rfl⟩ := six hg.l
  replace hx : Is K H (erD K Cs wh [d0, d1, d2, d3, d4, d5]) xe := hx
  have sc := sc__law_fields
  refine ⟨_, (pss_cons (ps_if (pt_cmpR (op_in_k (K := K)) (pv 0) (pe_tup (pa_cons pe_int (pa_cons pe_int (pa_cons pe_int (pa_cons pe_int (pa_cons pe_int pa_nil)))))) rfl) (pss_one (ps_ret (pe_lst (pa_cons (pe_xv_k (K := K) (pv 1)) pa_nil)))) pss_nil)
    (pss_cons (ps_if (pt_cmpR (op_in_k (K := K)) (pv 0) (pe_tup (pa_cons pe_int (pa_cons pe_int pa_nil))) rfl) (pss_one (ps_ret (pe_lst (pa_cons (pe_xv_k (K := K) (pv 1)) pa_nil)))) pss_nil)
    (pss_cons (ps_if (pt_cmpR op_eq (pv 0) pe_int (nomark _)) (pss_one (ps_ret (pe_lst (pa_cons (pe_xv_k (K := K) (pv 1)) (pa_cons (pe_xv_k (K := K) (pv 1)) pa_nil))))) pss_nil)
    (pss_cons (ps_if (pt_cmpR op_eq (pv 0) pe_int (nomark _)) (pss_one (ps_ret (pe_lst (pa_cons (pe_xv_k (K := K) (pv 1)) pa_nil)))) pss_nil)
    (pss_cons (ps_if (pt_cmpR op_eq (pv 0) pe_int (nomark _)) (pss_one (ps_ret (pe_lst (pa_cons (pe_xv_k (K := K) (pv 1)) pa_nil)))) pss_nil)
    (pss_cons (ps_if (pt_cmpR op_eq (pv 0) pe_int (nomark _)) (pss_one (ps_ret (pe_lst (pa_cons (pe_xv_k (K := K) (pv 1)) pa_nil)))) pss_nil)
    (pss_cons (ps_if (pt_cmpR op_eq (pv 0) pe_int (nomark _)) (pss_one (ps_ret (pe_lst (pa_cons (pe_xv_k (K := K) (pv 1)) pa_nil)))) pss_nil)
    (pss_cons (ps_if (pt_cmpR op_eq (pv 0) pe_int (nomark _)) (pss_one (ps_ret (pe_lst (pa_cons (pe_xv_k (K := K) (pv 1)) pa_nil)))) pss_nil)
    (pss_cons (ps_if (pt_cmpR op_eq (pv 0) pe_int (nomark _)) (pss_one (ps_ret (pe_lst (pa_cons (pe_xv_k (K := K) (pv 1)) pa_nil)))) pss_nil)
    (pss_cons (ps_if (pt_cmpR op_eq (pv 0) pe_int (nomark _)) (pss_one (ps_ret (pe_lst (pa_cons (pe_xv_k (K := K) (pv 1)) pa_nil)))) pss_nil)
    (pss_cons (ps_if (pt_cmpR op_eq (pv 0) pe_int (nomark _)) (pss_one (ps_ret (pe_lst (pa_cons (pe_xv_k (K := K) (pv 1)) pa_nil)))) pss_nil)
    (pss_one (ps_ret (pe_lst pa_nil)))))))))))))), ?_⟩
  refine a_when (K := K) (b := decide ((wh : Int) ∈ ([0, 1, 5, 11, 12] : List Int))) (et1 (er_op (er_v rfl) (er_tup (vs := vis [0, 1, 5, 11, 12]) (era_cons er_c (era_cons er_c (era_cons er_c (era_cons er_c (era_cons er_c era_nil))))) (by decide)) ro_inUi)) (fun hb B e => ?_) fun hb0 H1 e1 => ?_
  · have hb2 : wh = 0 ∨ wh = 1 ∨ wh = 5 ∨ wh = 11 ∨ wh = 12 := by simp only [decide_eq_true_eq, List.mem_cons, List.not_mem_nil, or_false] at hb; omega
    rcases hb2 with rfl | rfl | rfl | rfl | rfl
    · exact a_rete (K := K) (er_N (era_cons (er_xv (er_var rfl (hx.mono (e))) (i := 0) rfl rfl (TE.xf 0 (by decide)) (TE.nr 0 (by decide) _ (by decide))) era_nil) (by simp)) rfl (e) hk
    · exact a_rete (K := K) (er_N (era_cons (er_xv (er_var rfl (hx.mono (e))) (i := 0) rfl rfl (TE.xf 1 (by decide)) (TE.nr 1 (by decide) _ (by decide))) era_nil) (by simp)) rfl (e) hk
    · exact a_rete (K := K) (er_N (era_cons (er_xv (er_var rfl (hx.mono (e))) (i := 0) rfl rfl (TE.xf 5 (by decide)) (TE.nr 5 (by decide) _ (by decide))) era_nil) (by simp)) rfl (e) hk
    · exact a_rete (K := K) (er_N (era_cons (er_xv (er_var rfl (hx.mono (e))) (i := 0) rfl rfl (TE.xf 11 (by decide)) (TE.nr 11 (by decide) _ (by decide))) era_nil) (by simp)) rfl (e) hk
    · exact a_rete (K := K) (er_N (era_cons (er_xv (er_var rfl (hx.mono (e))) (i := 0) rfl rfl (TE.xf 12 (by decide)) (TE.nr 12 (by decide) _ (by decide))) era_nil) (by simp)) rfl (e) hk
  have F1 : Ex H H1 := e1
  refine a_when (K := K) (b := decide ((wh : Int) ∈ ([2, 4] : List Int))) (et1 (er_op (er_v rfl) (er_tup (vs := vis [2, 4]) (era_cons er_c (era_cons er_c era_nil)) (by decide)) ro_inUi)) (fun hb B e => ?_) fun hb1 H2 e2 => ?_
  · have hb2 : wh = 2 ∨ wh = 4 := by simp only [decide_eq_true_eq, List.mem_cons, List.not_mem_nil, or_false] at hb; omega
    rcases hb2 with rfl | rfl
    · exact a_rete (K := K) (er_N (era_cons (er_xv (er_var rfl (hx.mono (F1.trans e))) (i := 0) rfl rfl (TE.xf 2 (by decide)) (TE.nr 2 (by decide) _ (by decide))) era_nil) (by simp)) rfl (F1.trans e) hk
    · exact a_rete (K := K) (er_N (era_cons (er_xv (er_var rfl (hx.mono (F1.trans e))) (i := 0) rfl rfl (TE.xf 4 (by decide)) (TE.nr 4 (by decide) _ (by decide))) era_nil) (by simp)) rfl (F1.trans e) hk
  have F2 : Ex H H2 := F1.trans e2
  refine a_when (K := K) (b := decide ((wh : Int) = 3)) (et1 (er_op (er_v rfl) er_c ro_eqI)) (fun hb B e => ?_) fun hb2 H3 e3 => ?_
  · have hb2 : wh = 3 := by have := of_decide_eq_true hb; omega
    subst hb2
    exact a_rete (K := K) (er_N (era_cons (er_xv (er_var rfl (hx.mono (F2.trans e))) (i := 0) rfl rfl (TE.xf 3 (by decide)) (TE.nr 3 (by decide) _ (by decide))) (era_cons (er_xv (er_var rfl (hx.mono (F2.trans e))) (i := 1) rfl rfl (TE.xf 3 (by decide)) (TE.nr 3 (by decide) _ (by decide))) era_nil)) (by simp)) rfl (F2.trans e) hk
  have F3 : Ex H H3 := F2.trans e3
  refine a_when (K := K) (b := decide ((wh : Int) = 7)) (et1 (er_op (er_v rfl) er_c ro_eqI)) (fun hb B e => ?_) fun hb3 H4 e4 => ?_
  · have hb2 : wh = 7 := by have := of_decide_eq_true hb; omega
    subst hb2
    exact a_rete (K := K) (er_N (era_cons (er_xv (er_var rfl (hx.mono (F3.trans e))) (i := 0) rfl rfl (TE.xf 7 (by decide)) (TE.nr 7 (by decide) _ (by decide))) era_nil) (by simp)) rfl (F3.trans e) hk
  have F4 : Ex H H4 := F3.trans e4
  refine a_when (K := K) (b := decide ((wh : Int) = 8)) (et1 (er_op (er_v rfl) er_c ro_eqI)) (fun hb B e => ?_) fun hb4 H5 e5 => ?_
  · have hb2 : wh = 8 := by have := of_decide_eq_true hb; omega
    subst hb2
    exact a_rete (K := K) (er_N (era_cons (er_xv (er_var rfl (hx.mono (F4.trans e))) (i := 0) rfl rfl (TE.xf 8 (by decide)) (TE.nr 8 (by decide) _ (by decide))) era_nil) (by simp)) rfl (F4.trans e) hk
  have F5 : Ex H H5 := F4.trans e5
  refine a_when (K := K) (b := decide ((wh : Int) = 13)) (et1 (er_op (er_v rfl) er_c ro_eqI)) (fun hb B e => ?_) fun hb5 H6 e6 => ?_
  · have hb2 : wh = 13 := by have := of_decide_eq_true hb; omega
    subst hb2
    exact a_rete (K := K) (er_N (era_cons (er_xv (er_var rfl (hx.mono (F5.trans e))) (i := 0) rfl rfl (TE.xf 13 (by decide)) (TE.nr 13 (by decide) _ (by decide))) era_nil) (by simp)) rfl (F5.trans e) hk
  have F6 : Ex H H6 := F5.trans e6
  refine a_when (K := K) (b := decide ((wh : Int) = 16)) (et1 (er_op (er_v rfl) er_c ro_eqI)) (fun hb B e => ?_) fun hb6 H7 e7 => ?_
  · have hb2 : wh = 16 := by have := of_decide_eq_true hb; omega
    subst hb2
    exact a_rete (K := K) (er_N (era_cons (er_xv (er_var rfl (hx.mono (F6.trans e))) (i := 0) rfl rfl (TE.xf 16 (by decide)) (TE.nr 16 (by decide) _ (by decide))) era_nil) (by simp)) rfl (F6.trans e) hk
  have F7 : Ex H H7 := F6.trans e7
  refine a_when (K := K) (b := decide ((wh : Int) = 17)) (et1 (er_op (er_v rfl) er_c ro_eqI)) (fun hb B e => ?_) fun hb7 H8 e8 => ?_
  · have hb2 : wh = 17 := by have := of_decide_eq_true hb; omega
    subst hb2
    exact a_rete (K := K) (er_N (era_cons (er_xv (er_var rfl (hx.mono (F7.trans e))) (i := 0) rfl rfl (TE.xf 17 (by decide)) (TE.nr 17 (by decide) _ (by decide))) era_nil) (by simp)) rfl (F7.trans e) hk
  have F8 : Ex H H8 := F7.trans e8
  refine a_when (K := K) (b := decide ((wh : Int) = 18)) (et1 (er_op (er_v rfl) er_c ro_eqI)) (fun hb B e => ?_) fun hb8 H9 e9 => ?_
  · have hb2 : wh = 18 := by have := of_decide_eq_true hb; omega
    subst hb2
    exact a_rete (K := K) (er_N (era_cons (er_xv (er_var rfl (hx.mono (F8.trans e))) (i := 0) rfl rfl (TE.xf 18 (by decide)) (TE.nr 18 (by decide) _ (by decide))) era_nil) (by simp)) rfl (F8.trans e) hk
  have F9 : Ex H H9 := F8.trans e9
  refine a_when (K := K) (b := decide ((wh : Int) = 19)) (et1 (er_op (er_v rfl) er_c ro_eqI)) (fun hb B e => ?_) fun hb9 H10 e10 => ?_
  · have hb2 : wh = 19 := by have := of_decide_eq_true hb; omega
    subst hb2
    exact a_rete (K := K) (er_N (era_cons (er_xv (er_var rfl (hx.mono (F9.trans e))) (i := 0) rfl rfl (TE.xf 19 (by decide)) (TE.nr 19 (by decide) _ (by decide))) era_nil) (by simp)) rfl (F9.trans e) hk
  have F10 : Ex H H10 := F9.trans e10
  refine a_when (K := K) (b := decide ((wh : Int) = 20)) (et1 (er_op (er_v rfl) er_c ro_eqI)) (fun hb B e => ?_) fun hb10 H11 e11 => ?_
  · have hb2 : wh = 20 := by have := of_decide_eq_true hb; omega
    subst hb2
    exact a_rete (K := K) (er_N (era_cons (er_xv (er_var rfl (hx.mono (F10.trans e))) (i := 0) rfl rfl (TE.xf 20 (by decide)) (TE.nr 20 (by decide) _ (by decide))) era_nil) (by simp)) rfl (F10.trans e) hk
  have F11 : Ex H H11 := F10.trans e11
  simp only [decide_eq_false_iff_not, List.mem_cons, List.not_mem_nil, or_false, not_or] at hb0 hb1 hb2 hb3 hb4 hb5 hb6 hb7 hb8 hb9 hb10
  have none : flT wh = [] := by
    have q : wh = 6 ∨ wh = 9 ∨ wh = 10 ∨ wh = 14 ∨ wh = 15 ∨ wh = 21 := by omega
    rcases q with rfl | rfl | rfl | rfl | rfl | rfl <;> rfl
  refine a_rete (K := K) (er_N era_nil (by decide)) ?_ F11 hk
  show Dd.N [] = Dd.N (flD wh _)
  rw [flD_nil none hw]
abbrev sp__law_due (K : PySem.W.Frag) : Sp := spR K (fun a : EA => a.1 < 22 ∧ GvK a.2) (fun a => [.i (a.1 : Int), .L a.2]) fun a => .N (flD a.1 a.2)
def plN (ks : List Nat) : Dd := .N (ks.map fun k : Nat => Dd.i (k : Int))
abbrev s__law_due : Stmt := topS 32
theorem sc__law_due : FnScope ["which", "given", "places", "k"] ["which", "given"] (defScope s__law_due) := ⟨rfl, rfl, rfl, by decide +kernel, rfl, by decide +kernel, by decide +kernel⟩

theorem has__law_due (T : Txt K mg) (h : At K mg "_law_due" s__law_due ["which", "given"]) : Has P w K mg base 1 "_law_due" ["which", "given"] (sp__law_due K) := by
  refine h.hasR sc__law_due (fun _ => rfl) fun f cdv A outer s H ar vs Q E hr hp hv hk => ?_
  obtain ⟨wh, ds⟩ := ar
  obtain ⟨hw, hg⟩ := hp
  replace hw : wh < 22 := hw
  rcases hv with _ | ⟨rfl, _ | ⟨hx, _ | _⟩⟩
  rename_i xg
  replace hx : Is K H (.L ds) xg := hx
  have hl : ds.length = 6 := hg.l
  have sc := sc__law_due
  refine ⟨_, (pss_cons (ps_set (i := 2) sc.nd rfl (Or.inl rfl) (pe_lst (pa_cons (pe_lst (pa_cons pe_int pa_nil)) (pa_cons (pe_lst (pa_cons pe_int pa_nil)) (pa_cons (pe_lst (pa_cons pe_int pa_nil)) (pa_cons (pe_lst (pa_cons pe_int (pa_cons pe_int pa_nil))) (pa_cons (pe_lst (pa_cons pe_int pa_nil)) (pa_cons (pe_lst (pa_cons pe_int pa_nil)) (pa_cons (pe_lst pa_nil) (pa_cons (pe_lst (pa_cons pe_int pa_nil)) (pa_cons (pe_lst (pa_cons pe_int pa_nil)) (pa_cons (pe_lst pa_nil) (pa_cons (pe_lst pa_nil) pa_nil)))))))))))))
    (pss_cons (ps_set (i := 2) sc.nd rfl (Or.inl rfl) (pe_op op_cat (pv 2) (pe_lst (pa_cons (pe_lst (pa_cons pe_int pa_nil)) (pa_cons (pe_lst (pa_cons pe_int pa_nil)) (pa_cons (pe_lst (pa_cons pe_int pa_nil)) (pa_cons (pe_lst pa_nil) (pa_cons (pe_lst pa_nil) (pa_cons (pe_lst (pa_cons pe_int pa_nil)) (pa_cons (pe_lst (pa_cons pe_int pa_nil)) (pa_cons (pe_lst (pa_cons pe_int pa_nil)) (pa_cons (pe_lst (pa_cons pe_int pa_nil)) (pa_cons (pe_lst (pa_cons pe_int pa_nil)) (pa_cons (pe_lst pa_nil) pa_nil))))))))))))))
    (pss_one (ps_ret (pe_lc (own := [("k", 3)]) (g := gName 3) (by rfl) sc.nd (pi_list_k (K := K) (pe_ix (ix_list_k (K := K)) (pv 2) (pv 0) (fun _ _ => rfl))) (blkOk_by (N := ["which", "given", "places", "k"]) (sc := defScope s__law_due) (own := [("k", 3)]) (by decide +kernel)) (fun _ _ _ _ _ => (pg_name (i := 3) sc.nd rfl (Or.inl rfl))) (fun _ _ _ _ _ => pts_nil) (fun _ _ _ _ _ => (pe_ix (ix_list_k (K := K)) (pv 1) (pv 3) (fun _ _ => rfl)))))))), ?_⟩
  have p0 : ∀ {σ : L2.St} {H : Hp}, Ef K (tLst tNil) σ H (plN []) := ef_N efa_nil (by decide)
  have p1 : ∀ {σ : L2.St} {H : Hp} (k : Nat), Ef K (tLst (tCons (tC (.int (k : Int))) tNil)) σ H (plN [k]) := fun k => ef_N (efa_cons (ef_flat er_c) efa_nil) (by simp)
  have p2 : ∀ {σ : L2.St} {H : Hp} (k j : Nat), Ef K (tLst (tCons (tC (.int (k : Int))) (tCons (tC (.int (j : Int))) tNil))) σ H (plN [k, j]) := fun k j => ef_N (efa_cons (ef_flat er_c) (efa_cons (ef_flat er_c) efa_nil)) (by simp)
  refine a_asg (K := K) (d := .N ([plN [0], plN [0], plN [2], plN [0, 1], plN [2], plN [0], plN [], plN [4], plN [3], plN [], plN []])) (ef_N (efa_cons (p1 0) (efa_cons (p1 0) (efa_cons (p1 2) (efa_cons (p2 0 1) (efa_cons (p1 2) (efa_cons (p1 0) (efa_cons p0 (efa_cons (p1 4) (efa_cons (p1 3) (efa_cons p0 (efa_cons p0 efa_nil))))))))))) (by decide)).er fun x1 H1 e1 hy1 => ?_
  refine a_asg (K := K) (d := .N ((List.range 22).map fun v => plN (ixT v))) (Er.to (Ef.er (ef_op (ef_var rfl hy1) (ef_N (efa_cons (p1 0) (efa_cons (p1 0) (efa_cons (p1 2) (efa_cons p0 (efa_cons p0 (efa_cons (p1 0) (efa_cons (p1 5) (efa_cons (p1 0) (efa_cons (p1 4) (efa_cons (p1 0) (efa_cons p0 efa_nil))))))))))) (by decide)) (rf_cat (by decide)))) rfl) fun x2 H2 e2 hy2 => ?_
  have hx2 := hx.mono (e1.trans e2)
  refine a_rete (K := K) (Ef.er (Ef.to (ef_lc (K := K) (its := ixT wh) (inj := fun k : Nat => Dd.i (k : Int)) (vs := [3]) (fun _ => true) (fun k => ds.getD k .D) (if_list ((ef_op (ef_var rfl hy2) (ef_flat (er_v rfl)) (rf_ixN (i := wh) (d := plN (ixT wh)) (by rw [List.getElem?_map, List.getElem?_range hw]; rfl))).as fun _ _ z => z.N2L)) ?_ ?_) ?_)) rfl (e1.trans e2) hk
  · have q : ∀ v, v < 22 → (ixT v).length ≤ 50000 := by decide
    exact q wh hw
  · intro i k v G' A' eg ea hi hv
    have q : ∀ v, v < 22 → ∀ k ∈ ixT v, k < 6 := by decide
    have hk6 := q wh hw k (List.mem_of_getElem? hi)
    refine ⟨[some (.int (wh : Int)), some xg, some x2, some v], fun Q q => q, rfl, fun H6 e6 Q q => q H6 (Ex.refl H6), fun _ => ?_⟩
    obtain rfl : v = V.int (k : Int) := hv
    refine ef_op (ef_var rfl (hx2.mono eg)) (ef_flat (er_v rfl)) (rf_ixL (i := k) ?_)
    rw [List.getD_eq_getElem?_getD, List.getElem?_eq_getElem (by omega)]
    rfl
  · rw [filt_true]
    rfl
end
end Mi

set_option maxHeartbeats 4000000
namespace Mi
open PySem PySem.Spec PyProof.Rows L2 Evl
local macro_rules | `(tactic| walk_at "side") => `(tactic| (first | assumption | omega | exact rfl | decide | (simp only [List.length_cons, List.length_nil, List.length_map, List.length_append, List.length_replicate] <;> omega)))
local macro_rules | `(tactic| walk_at "ro") => `(tactic| (first
  | with_reducible exact ro_I0
  | with_reducible exact ro_1018
  | with_reducible exact ro_neC
  | with_reducible exact ro_eqC
  | with_reducible exact ro_neI
  | with_reducible exact ro_eqI
  | with_reducible exact ro_neB
  | with_reducible exact ro_eqB
  | ((with_reducible apply ro_mod); (walk_at "side"))
  | ((with_reducible apply ro_div) <;> (walk_at "side"))
  | ((with_reducible apply ro_divW) <;> (walk_at "side"))
  | with_reducible exact ro_1012
  | with_reducible exact ro_1015
  | ((with_reducible apply ro_mulL) <;> (walk_at "side"))
  | ((with_reducible apply ro_mulR) <;> (walk_at "side"))
  | ((with_reducible apply ro_addC); (walk_at "side"))
  | ((with_reducible apply ro_ixC) <;> (walk_at "side"))
  | ((with_reducible apply ro_ixI) <;> (walk_at "side"))
  | ((with_reducible apply ro_ixIN) <;> (walk_at "side"))
  | ((with_reducible apply ro_ixT2) <;> (walk_at "side"))
  | ((with_reducible apply ro_ixG) <;> (walk_at "side"))
  | ((with_reducible apply ro_eq); exact rfl)
  | ((with_reducible apply ro_ne); exact rfl)
  | with_reducible exact ro_isN
  | with_reducible exact ro_notN
  | with_reducible exact ro_eqL
  | with_reducible exact ro_neL
  | with_reducible exact ro_eqU
  | ((with_reducible apply ro_cat); (walk_at "side"))
  | with_reducible exact ro_inLi
  | with_reducible exact ro_inNi
  | with_reducible exact ro_inUi
  | ((with_reducible apply ro_inL) <;> (walk_at "side"))
  | ((with_reducible apply ro_inN) <;> (walk_at "side"))
  | ((with_reducible apply ro_inU) <;> (walk_at "side"))))
local macro_rules | `(tactic| walk_at "rc") => `(tactic| (first
  | with_reducible exact rc_int
  | with_reducible exact rc_intB
  | with_reducible exact rc_max2
  | ((with_reducible apply rc_lenC); (walk_at "side"))
  | with_reducible exact rc_lenI
  | with_reducible exact rc_lenT
  | with_reducible exact rc_lenIN
  | with_reducible exact rc_lenTN
  | with_reducible exact rc_lenL
  | with_reducible exact rc_lenN
  | with_reducible exact rc_lenU
  | with_reducible exact rc_listL
  | with_reducible exact rc_listU
  | with_reducible exact rc_tupL
  | with_reducible exact rc_tupN
  | ((with_reducible apply rc_isi_int); decide +kernel)
  | ((with_reducible apply rc_isi_str); decide +kernel)
  | ((with_reducible apply rc_isi_bl); decide +kernel)
  | ((with_reducible apply rc_isi_non); decide +kernel)
  | ((with_reducible apply rc_isi_u); decide +kernel)
  | ((with_reducible apply rc_isi_l); decide +kernel)))
local macro_rules | `(tactic| walk_at "er") => `(tactic| (first
  | ((with_reducible apply er_var); (exact rfl); assumption)
  | ((with_reducible apply er_v); exact rfl)
  | with_reducible exact er_c
  | ((with_reducible apply er_pick); (walk_at "er"); (walk_at "er"); (walk_at "er"))
  | ((with_reducible apply er_op); (walk_at "er"); (walk_at "er"); (walk_at "ro"))
  | ((with_reducible apply er_cb); (walk_at "era"); (walk_at "rc"))
  | ((with_reducible apply er_lst'); (walk_at "era"); (exact rfl); (walk_at "side"))
  | ((with_reducible apply er_tup'); (walk_at "era"); (exact rfl); (walk_at "side"))
  | ((with_reducible apply er_notV); (walk_at "er"))
  | ((with_reducible apply er_andV); (walk_at "er"); (intro _; (walk_at "er")))
  | ((with_reducible apply er_orV); (walk_at "er"); (intro _; (walk_at "er")))
  | ((with_reducible apply er_ite); (walk_at "et"); (intro _; (walk_at "er")); (intro _; (walk_at "er")))))
local macro_rules | `(tactic| walk_at "era") => `(tactic| (first
  | with_reducible exact era_nil
  | ((with_reducible apply era_cons); (walk_at "er"); (walk_at "era"))))
local macro_rules | `(tactic| walk_at "et") => `(tactic| (first
  | ((with_reducible apply et_an); (walk_at "et"); (intro _; (walk_at "et")))
  | ((with_reducible apply et_orr); (walk_at "et"); (intro _; (walk_at "et")))
  | ((with_reducible apply et_nt); (walk_at "et"))
  | ((with_reducible apply et1); (walk_at "er"))
  | ((with_reducible apply et2); (walk_at "er"))))

section
variable {P : Program} {w : World} {K : PySem.W.Frag} {mg : Str → Option Value} {base : Heap}
theorem hot1 {X : Cx} {a : Addr} {oe : Obj} {cls : Value} {d : Option Addr} {pn : List (Addr × Obj)} (hz : L2N.Zn cls d oe) (hf : ∃ vs, oe.data = .fields vs) : L2H.Hot1 (X.suite a ((a, oe) :: pn)).A (a, oe) := by
  obtain ⟨vs, hv⟩ := hf
  exact ⟨rfl, vs, hv, hz.2.2 vs hv⟩
/-! ### of which class an error is -/
def kdB (w j : Nat) : V := .bl (decide (w = j))
def kdV (w : Nat) : List V := (List.range 22).map (kdB w)
abbrev sp__law_kinds (K : PySem.W.Frag) (Cs : Nat → Addr) : Sp := spR K (fun a : EA => a.1 < 22) (fun a => [erD K Cs a.1 a.2]) fun a => .n (kdV a.1)
def hotM (a : Addr) (d : Option Addr) : MP where
  p := fun H v => v = .ref a ∧ ∀ dx, d = some dx → ∃ fs, H dx = some (.xd fs)
  m := fun e h => ⟨h.1, fun dx q => by obtain ⟨fs, z⟩ := h.2 dx q; exact ⟨fs, e _ _ z⟩⟩
abbrev spKH (K : PySem.W.Frag) (Cs : Nat → Addr) (a : Addr) (cls : Value) (d : Option Addr) : Sp := spR K (fun wh : Nat => wh < 22 ∧ cls = .ref (Cs wh)) (fun _ => [.P (hotM a d)]) fun wh => .n (kdV wh)
abbrev s__law_kinds : Stmt := topS 33
theorem sc__law_kinds : FnScope ["error", "told"] ["error"] (defScope s__law_kinds) := ⟨rfl, rfl, rfl, by decide +kernel, rfl, by decide +kernel, by decide +kernel⟩

theorem has__law_kinds {Cs fs : Nat → Addr} {CS : Addr} (T : Txt K mg) (TE : ErAll K mg Cs fs CS) (h : At K mg "_law_kinds" s__law_kinds ["error"]) : Has P w K mg base 1 "_law_kinds" ["error"] (sp__law_kinds K Cs) := by
  refine h.hasR sc__law_kinds (fun _ => rfl) fun f cdv A outer s H ar vs Q E hr hp hv hk => ?_
  obtain ⟨wh, ds⟩ := ar
  replace hp : wh < 22 := hp
  rcases hv with _ | ⟨hx, _ | _⟩
  rename_i xe
  replace hx : Is K H (erD K Cs wh ds) xe := hx
  have sc := sc__law_kinds
  refine ⟨_, (pss_cons (ps_set (i := 1) sc.nd rfl (Or.inl rfl) (pe_lst pa_nil))
    (pss_cons (ps_set (i := 1) sc.nd rfl (Or.inl rfl) (pe_op op_cat (pv 1) (pe_lst (pa_cons (pe_callB (call_isV (K := K)) (by rfl) T.b_isinstance (by decide +kernel) (pa_cons (pv 0) (pa_cons (pe_glob (v := .ref (Cs 0)) rfl TE.g0 rfl) pa_nil))) (pa_cons (pe_callB (call_isV (K := K)) (by rfl) T.b_isinstance (by decide +kernel) (pa_cons (pv 0) (pa_cons (pe_glob (v := .ref (Cs 1)) rfl TE.g1 rfl) pa_nil))) (pa_cons (pe_callB (call_isV (K := K)) (by rfl) T.b_isinstance (by decide +kernel) (pa_cons (pv 0) (pa_cons (pe_glob (v := .ref (Cs 2)) rfl TE.g2 rfl) pa_nil))) pa_nil))))))
    (pss_cons (ps_set (i := 1) sc.nd rfl (Or.inl rfl) (pe_op op_cat (pv 1) (pe_lst (pa_cons (pe_callB (call_isV (K := K)) (by rfl) T.b_isinstance (by decide +kernel) (pa_cons (pv 0) (pa_cons (pe_glob (v := .ref (Cs 3)) rfl TE.g3 rfl) pa_nil))) (pa_cons (pe_callB (call_isV (K := K)) (by rfl) T.b_isinstance (by decide +kernel) (pa_cons (pv 0) (pa_cons (pe_glob (v := .ref (Cs 4)) rfl TE.g4 rfl) pa_nil))) (pa_cons (pe_callB (call_isV (K := K)) (by rfl) T.b_isinstance (by decide +kernel) (pa_cons (pv 0) (pa_cons (pe_glob (v := .ref (Cs 5)) rfl TE.g5 rfl) pa_nil))) pa_nil))))))
    (pss_cons (ps_set (i := 1) sc.nd rfl (Or.inl rfl) (pe_op op_cat (pv 1) (pe_lst (pa_cons (pe_callB (call_isV (K := K)) (by rfl) T.b_isinstance (by decide +kernel) (pa_cons (pv 0) (pa_cons (pe_glob (v := .ref (Cs 6)) rfl TE.g6 rfl) pa_nil))) (pa_cons (pe_callB (call_isV (K := K)) (by rfl) T.b_isinstance (by decide +kernel) (pa_cons (pv 0) (pa_cons (pe_glob (v := .ref (Cs 7)) rfl TE.g7 rfl) pa_nil))) (pa_cons (pe_callB (call_isV (K := K)) (by rfl) T.b_isinstance (by decide +kernel) (pa_cons (pv 0) (pa_cons (pe_glob (v := .ref (Cs 8)) rfl TE.g8 rfl) pa_nil))) pa_nil))))))
    (pss_cons (ps_set (i := 1) sc.nd rfl (Or.inl rfl) (pe_op op_cat (pv 1) (pe_lst (pa_cons (pe_callB (call_isV (K := K)) (by rfl) T.b_isinstance (by decide +kernel) (pa_cons (pv 0) (pa_cons (pe_glob (v := .ref (Cs 9)) rfl TE.g9 rfl) pa_nil))) (pa_cons (pe_callB (call_isV (K := K)) (by rfl) T.b_isinstance (by decide +kernel) (pa_cons (pv 0) (pa_cons (pe_glob (v := .ref (Cs 10)) rfl TE.g10 rfl) pa_nil))) (pa_cons (pe_callB (call_isV (K := K)) (by rfl) T.b_isinstance (by decide +kernel) (pa_cons (pv 0) (pa_cons (pe_glob (v := .ref (Cs 11)) rfl TE.g11 rfl) pa_nil))) pa_nil))))))
    (pss_cons (ps_set (i := 1) sc.nd rfl (Or.inl rfl) (pe_op op_cat (pv 1) (pe_lst (pa_cons (pe_callB (call_isV (K := K)) (by rfl) T.b_isinstance (by decide +kernel) (pa_cons (pv 0) (pa_cons (pe_glob (v := .ref (Cs 12)) rfl TE.g12 rfl) pa_nil))) (pa_cons (pe_callB (call_isV (K := K)) (by rfl) T.b_isinstance (by decide +kernel) (pa_cons (pv 0) (pa_cons (pe_glob (v := .ref (Cs 13)) rfl TE.g13 rfl) pa_nil))) (pa_cons (pe_callB (call_isV (K := K)) (by rfl) T.b_isinstance (by decide +kernel) (pa_cons (pv 0) (pa_cons (pe_glob (v := .ref (Cs 14)) rfl TE.g14 rfl) pa_nil))) pa_nil))))))
    (pss_cons (ps_set (i := 1) sc.nd rfl (Or.inl rfl) (pe_op op_cat (pv 1) (pe_lst (pa_cons (pe_callB (call_isV (K := K)) (by rfl) T.b_isinstance (by decide +kernel) (pa_cons (pv 0) (pa_cons (pe_glob (v := .ref (Cs 15)) rfl TE.g15 rfl) pa_nil))) (pa_cons (pe_callB (call_isV (K := K)) (by rfl) T.b_isinstance (by decide +kernel) (pa_cons (pv 0) (pa_cons (pe_glob (v := .ref (Cs 16)) rfl TE.g16 rfl) pa_nil))) (pa_cons (pe_callB (call_isV (K := K)) (by rfl) T.b_isinstance (by decide +kernel) (pa_cons (pv 0) (pa_cons (pe_glob (v := .ref (Cs 17)) rfl TE.g17 rfl) pa_nil))) pa_nil))))))
    (pss_cons (ps_set (i := 1) sc.nd rfl (Or.inl rfl) (pe_op op_cat (pv 1) (pe_lst (pa_cons (pe_callB (call_isV (K := K)) (by rfl) T.b_isinstance (by decide +kernel) (pa_cons (pv 0) (pa_cons (pe_glob (v := .ref (Cs 18)) rfl TE.g18 rfl) pa_nil))) (pa_cons (pe_callB (call_isV (K := K)) (by rfl) T.b_isinstance (by decide +kernel) (pa_cons (pv 0) (pa_cons (pe_glob (v := .ref (Cs 19)) rfl TE.g19 rfl) pa_nil))) (pa_cons (pe_callB (call_isV (K := K)) (by rfl) T.b_isinstance (by decide +kernel) (pa_cons (pv 0) (pa_cons (pe_glob (v := .ref (Cs 20)) rfl TE.g20 rfl) pa_nil))) pa_nil))))))
    (pss_cons (ps_set (i := 1) sc.nd rfl (Or.inl rfl) (pe_op op_cat (pv 1) (pe_lst (pa_cons (pe_callB (call_isV (K := K)) (by rfl) T.b_isinstance (by decide +kernel) (pa_cons (pv 0) (pa_cons (pe_glob (v := .ref (Cs 21)) rfl TE.g21 rfl) pa_nil))) pa_nil))))
    (pss_one (ps_ret (pv 1)))))))))))), ?_⟩
  have isV : ∀ {σ : L2.St} {H1 : Hp} (e : Ex H H1) (j : Nat) (hj : j < 22) (hσ : σ[0]? = some (some xe) := by rfl), Er K (tCB (rIsV K) (tCons (tVar 0) (tCons (tC (.ref (Cs j))) tNil))) σ H1 (.v (kdB wh j)) := fun e j hj hσ => er_isV (.ref (Cs j)) (er_var hσ (hx.mono e)) er_c (TE.xd wh hp) (fun u r => r) (TE.kit wh j hp hj)
  refine a_asg (K := K) (d := .n []) (er_lst era_nil (by simp)) fun t0 H0 e0 ht0 => ?_
  refine a_asg (K := K) (d := .n ((List.range 3).map (kdB wh))) (Er.to (er_op (er_var rfl ht0) (er_lst (vs := [kdB wh 0, kdB wh 1, kdB wh 2]) (era_cons (isV e0 0 (by decide)) (era_cons (isV e0 1 (by decide)) (era_cons (isV e0 2 (by decide)) era_nil))) (by simp)) (ro_cat (by simp))) rfl) fun t1 H1 e1 ht1 => ?_
  have E1 : Ex H H1 := e0.trans e1
  refine a_asg (K := K) (d := .n ((List.range 6).map (kdB wh))) (Er.to (er_op (er_var rfl ht1) (er_lst (vs := [kdB wh 3, kdB wh 4, kdB wh 5]) (era_cons (isV E1 3 (by decide)) (era_cons (isV E1 4 (by decide)) (era_cons (isV E1 5 (by decide)) era_nil))) (by simp)) (ro_cat (by simp))) rfl) fun t2 H2 e2 ht2 => ?_
  have E2 : Ex H H2 := E1.trans e2
  refine a_asg (K := K) (d := .n ((List.range 9).map (kdB wh))) (Er.to (er_op (er_var rfl ht2) (er_lst (vs := [kdB wh 6, kdB wh 7, kdB wh 8]) (era_cons (isV E2 6 (by decide)) (era_cons (isV E2 7 (by decide)) (era_cons (isV E2 8 (by decide)) era_nil))) (by simp)) (ro_cat (by simp))) rfl) fun t3 H3 e3 ht3 => ?_
  have E3 : Ex H H3 := E2.trans e3
  refine a_asg (K := K) (d := .n ((List.range 12).map (kdB wh))) (Er.to (er_op (er_var rfl ht3) (er_lst (vs := [kdB wh 9, kdB wh 10, kdB wh 11]) (era_cons (isV E3 9 (by decide)) (era_cons (isV E3 10 (by decide)) (era_cons (isV E3 11 (by decide)) era_nil))) (by simp)) (ro_cat (by simp))) rfl) fun t4 H4 e4 ht4 => ?_
  have E4 : Ex H H4 := E3.trans e4
  refine a_asg (K := K) (d := .n ((List.range 15).map (kdB wh))) (Er.to (er_op (er_var rfl ht4) (er_lst (vs := [kdB wh 12, kdB wh 13, kdB wh 14]) (era_cons (isV E4 12 (by decide)) (era_cons (isV E4 13 (by decide)) (era_cons (isV E4 14 (by decide)) era_nil))) (by simp)) (ro_cat (by simp))) rfl) fun t5 H5 e5 ht5 => ?_
  have E5 : Ex H H5 := E4.trans e5
  refine a_asg (K := K) (d := .n ((List.range 18).map (kdB wh))) (Er.to (er_op (er_var rfl ht5) (er_lst (vs := [kdB wh 15, kdB wh 16, kdB wh 17]) (era_cons (isV E5 15 (by decide)) (era_cons (isV E5 16 (by decide)) (era_cons (isV E5 17 (by decide)) era_nil))) (by simp)) (ro_cat (by simp))) rfl) fun t6 H6 e6 ht6 => ?_
  have E6 : Ex H H6 := E5.trans e6
  refine a_asg (K := K) (d := .n ((List.range 21).map (kdB wh))) (Er.to (er_op (er_var rfl ht6) (er_lst (vs := [kdB wh 18, kdB wh 19, kdB wh 20]) (era_cons (isV E6 18 (by decide)) (era_cons (isV E6 19 (by decide)) (era_cons (isV E6 20 (by decide)) era_nil))) (by simp)) (ro_cat (by simp))) rfl) fun t7 H7 e7 ht7 => ?_
  have E7 : Ex H H7 := E6.trans e7
  refine a_asg (K := K) (d := .n ((List.range 22).map (kdB wh))) (Er.to (er_op (er_var rfl ht7) (er_lst (vs := [kdB wh 21]) (era_cons (isV E7 21 (by decide)) era_nil) (by simp)) (ro_cat (by simp))) rfl) fun t8 H8 e8 ht8 => ?_
  have E8 : Ex H H8 := E7.trans e8
  exact a_rete (K := K) (er_var rfl ht8) rfl E8 hk
theorem hot__law_kinds {Cs fs : Nat → Addr} {CS : Addr} (T : Txt K mg) (TE : ErAll K mg Cs fs CS) (h : At K mg "_law_kinds" s__law_kinds ["error"]) (a : Addr) (oe : Obj) (cls : Value) (d : Option Addr) (hz : Zc cls d oe) (hf : ∃ vs, oe.data = .fields vs) : HasHp P w K mg base 1 (a, oe) "_law_kinds" ["error"] (spKH K Cs a cls d) := by
  refine h.hasHp fun {f fd} F => Fun.okHp F sc__law_kinds (fun vs H Q E ⟨_, _, hv, _⟩ => hv.len.symm) fun cdv A outer s H vs Q hot hr ⟨wh, hp, hv, hk⟩ => ?_
  obtain ⟨hp, rfl⟩ := hp
  rcases hv with _ | ⟨⟨rfl, hd⟩, _ | _⟩
  have sc := sc__law_kinds
  refine ⟨_, (pss_cons (ps_set (i := 1) sc.nd rfl (Or.inl rfl) (pe_lst pa_nil))
    (pss_cons (ps_set (i := 1) sc.nd rfl (Or.inl rfl) (pe_op op_cat (pv 1) (pe_lst (pa_cons (pe_callB (call_isP (K := K) (List.mem_singleton.mpr rfl) hz hf) (by rfl) T.b_isinstance (by decide +kernel) (pa_cons (pv 0) (pa_cons (pe_glob (v := .ref (Cs 0)) rfl TE.g0 rfl) pa_nil))) (pa_cons (pe_callB (call_isP (K := K) (List.mem_singleton.mpr rfl) hz hf) (by rfl) T.b_isinstance (by decide +kernel) (pa_cons (pv 0) (pa_cons (pe_glob (v := .ref (Cs 1)) rfl TE.g1 rfl) pa_nil))) (pa_cons (pe_callB (call_isP (K := K) (List.mem_singleton.mpr rfl) hz hf) (by rfl) T.b_isinstance (by decide +kernel) (pa_cons (pv 0) (pa_cons (pe_glob (v := .ref (Cs 2)) rfl TE.g2 rfl) pa_nil))) pa_nil))))))
    (pss_cons (ps_set (i := 1) sc.nd rfl (Or.inl rfl) (pe_op op_cat (pv 1) (pe_lst (pa_cons (pe_callB (call_isP (K := K) (List.mem_singleton.mpr rfl) hz hf) (by rfl) T.b_isinstance (by decide +kernel) (pa_cons (pv 0) (pa_cons (pe_glob (v := .ref (Cs 3)) rfl TE.g3 rfl) pa_nil))) (pa_cons (pe_callB (call_isP (K := K) (List.mem_singleton.mpr rfl) hz hf) (by rfl) T.b_isinstance (by decide +kernel) (pa_cons (pv 0) (pa_cons (pe_glob (v := .ref (Cs 4)) rfl TE.g4 rfl) pa_nil))) (pa_cons (pe_callB (call_isP (K := K) (List.mem_singleton.mpr rfl) hz hf) (by rfl) T.b_isinstance (by decide +kernel) (pa_cons (pv 0) (pa_cons (pe_glob (v := .ref (Cs 5)) rfl TE.g5 rfl) pa_nil))) pa_nil))))))
    (pss_cons (ps_set (i := 1) sc.nd rfl (Or.inl rfl) (pe_op op_cat (pv 1) (pe_lst (pa_cons (pe_callB (call_isP (K := K) (List.mem_singleton.mpr rfl) hz hf) (by rfl) T.b_isinstance (by decide +kernel) (pa_cons (pv 0) (pa_cons (pe_glob (v := .ref (Cs 6)) rfl TE.g6 rfl) pa_nil))) (pa_cons (pe_callB (call_isP (K := K) (List.mem_singleton.mpr rfl) hz hf) (by rfl) T.b_isinstance (by decide +kernel) (pa_cons (pv 0) (pa_cons (pe_glob (v := .ref (Cs 7)) rfl TE.g7 rfl) pa_nil))) (pa_cons (pe_callB (call_isP (K := K) (List.mem_singleton.mpr rfl) hz hf) (by rfl) T.b_isinstance (by decide +kernel) (pa_cons (pv 0) (pa_cons (pe_glob (v := .ref (Cs 8)) rfl TE.g8 rfl) pa_nil))) pa_nil))))))
    (pss_cons (ps_set (i := 1) sc.nd rfl (Or.inl rfl) (pe_op op_cat (pv 1) (pe_lst (pa_cons (pe_callB (call_isP (K := K) (List.mem_singleton.mpr rfl) hz hf) (by rfl) T.b_isinstance (by decide +kernel) (pa_cons (pv 0) (pa_cons (pe_glob (v := .ref (Cs 9)) rfl TE.g9 rfl) pa_nil))) (pa_cons (pe_callB (call_isP (K := K) (List.mem_singleton.mpr rfl) hz hf) (by rfl) T.b_isinstance (by decide +kernel) (pa_cons (pv 0) (pa_cons (pe_glob (v := .ref (Cs 10)) rfl TE.g10 rfl) pa_nil))) (pa_cons (pe_callB (call_isP (K := K) (List.mem_singleton.mpr rfl) hz hf) (by rfl) T.b_isinstance (by decide +kernel) (pa_cons (pv 0) (pa_cons (pe_glob (v := .ref (Cs 11)) rfl TE.g11 rfl) pa_nil))) pa_nil))))))
    (pss_cons (ps_set (i := 1) sc.nd rfl (Or.inl rfl) (pe_op op_cat (pv 1) (pe_lst (pa_cons (pe_callB (call_isP (K := K) (List.mem_singleton.mpr rfl) hz hf) (by rfl) T.b_isinstance (by decide +kernel) (pa_cons (pv 0) (pa_cons (pe_glob (v := .ref (Cs 12)) rfl TE.g12 rfl) pa_nil))) (pa_cons (pe_callB (call_isP (K := K) (List.mem_singleton.mpr rfl) hz hf) (by rfl) T.b_isinstance (by decide +kernel) (pa_cons (pv 0) (pa_cons (pe_glob (v := .ref (Cs 13)) rfl TE.g13 rfl) pa_nil))) (pa_cons (pe_callB (call_isP (K := K) (List.mem_singleton.mpr rfl) hz hf) (by rfl) T.b_isinstance (by decide +kernel) (pa_cons (pv 0) (pa_cons (pe_glob (v := .ref (Cs 14)) rfl TE.g14 rfl) pa_nil))) pa_nil))))))
    (pss_cons (ps_set (i := 1) sc.nd rfl (Or.inl rfl) (pe_op op_cat (pv 1) (pe_lst (pa_cons (pe_callB (call_isP (K := K) (List.mem_singleton.mpr rfl) hz hf) (by rfl) T.b_isinstance (by decide +kernel) (pa_cons (pv 0) (pa_cons (pe_glob (v := .ref (Cs 15)) rfl TE.g15 rfl) pa_nil))) (pa_cons (pe_callB (call_isP (K := K) (List.mem_singleton.mpr rfl) hz hf) (by rfl) T.b_isinstance (by decide +kernel) (pa_cons (pv 0) (pa_cons (pe_glob (v := .ref (Cs 16)) rfl TE.g16 rfl) pa_nil))) (pa_cons (pe_callB (call_isP (K := K) (List.mem_singleton.mpr rfl) hz hf) (by rfl) T.b_isinstance (by decide +kernel) (pa_cons (pv 0) (pa_cons (pe_glob (v := .ref (Cs 17)) rfl TE.g17 rfl) pa_nil))) pa_nil))))))
    (pss_cons (ps_set (i := 1) sc.nd rfl (Or.inl rfl) (pe_op op_cat (pv 1) (pe_lst (pa_cons (pe_callB (call_isP (K := K) (List.mem_singleton.mpr rfl) hz hf) (by rfl) T.b_isinstance (by decide +kernel) (pa_cons (pv 0) (pa_cons (pe_glob (v := .ref (Cs 18)) rfl TE.g18 rfl) pa_nil))) (pa_cons (pe_callB (call_isP (K := K) (List.mem_singleton.mpr rfl) hz hf) (by rfl) T.b_isinstance (by decide +kernel) (pa_cons (pv 0) (pa_cons (pe_glob (v := .ref (Cs 19)) rfl TE.g19 rfl) pa_nil))) (pa_cons (pe_callB (call_isP (K := K) (List.mem_singleton.mpr rfl) hz hf) (by rfl) T.b_isinstance (by decide +kernel) (pa_cons (pv 0) (pa_cons (pe_glob (v := .ref (Cs 20)) rfl TE.g20 rfl) pa_nil))) pa_nil))))))
    (pss_cons (ps_set (i := 1) sc.nd rfl (Or.inl rfl) (pe_op op_cat (pv 1) (pe_lst (pa_cons (pe_callB (call_isP (K := K) (List.mem_singleton.mpr rfl) hz hf) (by rfl) T.b_isinstance (by decide +kernel) (pa_cons (pv 0) (pa_cons (pe_glob (v := .ref (Cs 21)) rfl TE.g21 rfl) pa_nil))) pa_nil))))
    (pss_one (ps_ret (pv 1)))))))))))), ?_⟩
  have isV : ∀ {σ : L2.St} {H1 : Hp} (e : Ex H H1) (j : Nat) (hj : j < 22) (hσ : σ[0]? = some (some (.ref a)) := by rfl), Er K (tCB (rIsP K a (.ref (Cs wh)) d) (tCons (tVar 0) (tCons (tC (.ref (Cs j))) tNil))) σ H1 (.v (kdB wh j)) := fun e j hj hσ => er_isP (.ref (Cs j)) (er_v hσ) er_c rfl (fun dx q => by obtain ⟨fs, z⟩ := hd dx q; exact ⟨fs, e _ _ z⟩) (TE.xd wh hp) (fun u r => r) (TE.kit wh j hp hj)
  refine a_asg (K := K) (d := .n []) (er_lst era_nil (by simp)) fun t0 H0 e0 ht0 => ?_
  refine a_asg (K := K) (d := .n ((List.range 3).map (kdB wh))) (Er.to (er_op (er_var rfl ht0) (er_lst (vs := [kdB wh 0, kdB wh 1, kdB wh 2]) (era_cons (isV e0 0 (by decide)) (era_cons (isV e0 1 (by decide)) (era_cons (isV e0 2 (by decide)) era_nil))) (by simp)) (ro_cat (by simp))) rfl) fun t1 H1 e1 ht1 => ?_
  have E1 : Ex H H1 := e0.trans e1
  refine a_asg (K := K) (d := .n ((List.range 6).map (kdB wh))) (Er.to (er_op (er_var rfl ht1) (er_lst (vs := [kdB wh 3, kdB wh 4, kdB wh 5]) (era_cons (isV E1 3 (by decide)) (era_cons (isV E1 4 (by decide)) (era_cons (isV E1 5 (by decide)) era_nil))) (by simp)) (ro_cat (by simp))) rfl) fun t2 H2 e2 ht2 => ?_
  have E2 : Ex H H2 := E1.trans e2
  refine a_asg (K := K) (d := .n ((List.range 9).map (kdB wh))) (Er.to (er_op (er_var rfl ht2) (er_lst (vs := [kdB wh 6, kdB wh 7, kdB wh 8]) (era_cons (isV E2 6 (by decide)) (era_cons (isV E2 7 (by decide)) (era_cons (isV E2 8 (by decide)) era_nil))) (by simp)) (ro_cat (by simp))) rfl) fun t3 H3 e3 ht3 => ?_
  have E3 : Ex H H3 := E2.trans e3
  refine a_asg (K := K) (d := .n ((List.range 12).map (kdB wh))) (Er.to (er_op (er_var rfl ht3) (er_lst (vs := [kdB wh 9, kdB wh 10, kdB wh 11]) (era_cons (isV E3 9 (by decide)) (era_cons (isV E3 10 (by decide)) (era_cons (isV E3 11 (by decide)) era_nil))) (by simp)) (ro_cat (by simp))) rfl) fun t4 H4 e4 ht4 => ?_
  have E4 : Ex H H4 := E3.trans e4
  refine a_asg (K := K) (d := .n ((List.range 15).map (kdB wh))) (Er.to (er_op (er_var rfl ht4) (er_lst (vs := [kdB wh 12, kdB wh 13, kdB wh 14]) (era_cons (isV E4 12 (by decide)) (era_cons (isV E4 13 (by decide)) (era_cons (isV E4 14 (by decide)) era_nil))) (by simp)) (ro_cat (by simp))) rfl) fun t5 H5 e5 ht5 => ?_
  have E5 : Ex H H5 := E4.trans e5
  refine a_asg (K := K) (d := .n ((List.range 18).map (kdB wh))) (Er.to (er_op (er_var rfl ht5) (er_lst (vs := [kdB wh 15, kdB wh 16, kdB wh 17]) (era_cons (isV E5 15 (by decide)) (era_cons (isV E5 16 (by decide)) (era_cons (isV E5 17 (by decide)) era_nil))) (by simp)) (ro_cat (by simp))) rfl) fun t6 H6 e6 ht6 => ?_
  have E6 : Ex H H6 := E5.trans e6
  refine a_asg (K := K) (d := .n ((List.range 21).map (kdB wh))) (Er.to (er_op (er_var rfl ht6) (er_lst (vs := [kdB wh 18, kdB wh 19, kdB wh 20]) (era_cons (isV E6 18 (by decide)) (era_cons (isV E6 19 (by decide)) (era_cons (isV E6 20 (by decide)) era_nil))) (by simp)) (ro_cat (by simp))) rfl) fun t7 H7 e7 ht7 => ?_
  have E7 : Ex H H7 := E6.trans e7
  refine a_asg (K := K) (d := .n ((List.range 22).map (kdB wh))) (Er.to (er_op (er_var rfl ht7) (er_lst (vs := [kdB wh 21]) (era_cons (isV E7 21 (by decide)) era_nil) (by simp)) (ro_cat (by simp))) rfl) fun t8 H8 e8 ht8 => ?_
  have E8 : Ex H H8 := E7.trans e8
  exact a_rete (K := K) (er_var rfl ht8) rfl E8 hk
theorem okPy_n {xs : List V} (h : ∀ x ∈ xs, okV x) : okPy 64 (.n xs) := by
  unfold okPy
  exact ⟨by decide, h⟩
theorem kdV_ok {w : Nat} : ∀ x ∈ kdV w, okV x := fun x hx => by
  obtain ⟨j, _, rfl⟩ := List.mem_map.mp hx
  exact trivial
theorem eqv_kd (w : Nat) : ∀ l : List Nat, PyData.eqvAll ((l.map (kdB w)).map pyV) ((l.map (kdB w)).map pyV) = true
  | [] => by simp [PyData.eqvAll]
  | j :: r => by
    have e : PyData.eqv (pyV (kdB w j)) (pyV (kdB w j)) = true := by simp [pyV, kdB, PyData.eqv]
    simp only [List.map_cons, PyData.eqvAll, e, Bool.true_and]
    exact eqv_kd w r
theorem ro_eqK {w : Nat} : Ro K (rEqD K) (.n (kdV w)) (.n (kdV w)) (.b true) := by
  have e : PyData.eqv (pyD (.n (kdV w))) (pyD (.n (kdV w))) = true := by
    unfold pyD
    simp only [PyData.eqv]
    exact eqv_kd w _
  have h := ro_eqP (K := K) (okPy_n (kdV_ok (w := w))) (okPy_n (kdV_ok (w := w)))
  rwa [e] at h
theorem ro_neK {w : Nat} : Ro K (rNeD K) (.n (kdV w)) (.n (kdV w)) (.b false) := by
  have e : PyData.eqv (pyD (.n (kdV w))) (pyD (.n (kdV w))) = true := by
    unfold pyD
    simp only [PyData.eqv]
    exact eqv_kd w _
  have h := ro_neP (K := K) (okPy_n (kdV_ok (w := w))) (okPy_n (kdV_ok (w := w)))
  rwa [e] at h
theorem er_kinds {σ : L2.St} {H : Hp} {j v : Nat} {wh : Nat} {ta : TA} {te : TE} {vs : List Nat} (h : Era K ta σ H [.v (.int ((22 : Nat) : Int))]) (hw : ∀ x, wipe ((wipe σ vs).set j (some x)) vs = wipe σ vs) (he : ∀ (i : Nat) H1, Ex H H1 → i < 22 → Er K te ((wipe σ vs).set j (some (.int (i : Int)))) H1 (.v (kdB wh i))) :
    Er K (tLc (iRng1 ta) (gName j) tYes te vs) σ H (.n (kdV wh)) := er_lcR' (K := K) (n := 22) (kdB wh) h (by decide) hw he
theorem kd_int {wh j : Nat} : Dd.v (V.bl (decide ((j : Int) = (wh : Int)))) = Dd.v (kdB wh j) := by
  unfold kdB
  congr 2
  have : ((j : Int) = (wh : Int)) ↔ (wh = j) := by omega
  exact decide_eq_decide.mpr this
abbrev s__law_raised : Stmt := topS 34
theorem sc__law_raised : FnScope ["which", "given", "k", "e"] ["which", "given"] (defScope s__law_raised) := ⟨rfl, rfl, rfl, by decide +kernel, rfl, by decide +kernel, by decide +kernel⟩

abbrev sp__law_raised (K : PySem.W.Frag) : Sp := spR K (fun a : EA => a.1 < 22 ∧ GvK a.2) (fun a => [.i (a.1 : Int), .L a.2]) fun _ => .b true
theorem has__law_raised {Cs fs : Nat → Addr} {fds : Nat → FuncData} {CS : Addr} (T : Txt K mg) (TE : ErAll K mg Cs fs CS) (F_E : InitAll P w K mg base Cs fs fds) (h : At K mg "_law_raised" s__law_raised ["which", "given"]) (HK : ∀ (a : Addr) (oe : Obj) (cls : Value) (d : Option Addr), Zc cls d oe → (∃ vs, oe.data = .fields vs) → HasHp P w K mg base 1 (a, oe) "_law_kinds" ["error"] (spKH K Cs a cls d)) : Has P w K mg base 8 "_law_raised" ["which", "given"] (sp__law_raised K) := by
  refine h.hasR sc__law_raised (fun _ => rfl) fun f cdv A outer s H ar vs Q E hr hp hv hk => ?_
  obtain ⟨wh, ds⟩ := ar
  obtain ⟨hw, hg⟩ := hp
  replace hw : wh < 22 := hw
  rcases hv with _ | ⟨rfl, _ | ⟨hx, _ | _⟩⟩
  rename_i xg
  obtain ⟨d0, d1, d2, d3, d4, d5, rfl⟩ := six hg.l
  replace hx : Is K H (.L [d0, d1, d2, d3, d4, d5]) xg := hx
  have sc := sc__law_raised
  refine ⟨_, (pss_cons (L2N.ps_try_asM (i := 3) (Wout := fun _ _ _ _ => False) rfl rfl sc.nd rfl rfl takes0N (fun W pn xe tk _ => (pss_cons (ps_if (pt_cmpR op_eq (pv 0) pe_int (nomark _)) (pss_one (L2N.ps_raise rfl tk (pmk_oexN (TE.ox 0 (by decide)) (TE.iC 0 (by decide) (by decide)) (TE.tI 0 (by decide) (by decide)) (F_E 0 (by decide) (by decide)).1 (hr.mono (by decide)) (F_E 0 (by decide) (by decide)).2 TE.g0 (pa_cons (pe_ix (ix_list_k (K := K)) (pv 1) pe_int (fun _ _ => rfl)) pa_nil)))) pss_nil)
    (pss_cons (ps_if (pt_cmpR op_eq (pv 0) pe_int (nomark _)) (pss_one (L2N.ps_raise rfl tk (pmk_oexN (TE.ox 1 (by decide)) (TE.iC 1 (by decide) (by decide)) (TE.tI 1 (by decide) (by decide)) (F_E 1 (by decide) (by decide)).1 (hr.mono (by decide)) (F_E 1 (by decide) (by decide)).2 TE.g1 (pa_cons (pe_ix (ix_list_k (K := K)) (pv 1) pe_int (fun _ _ => rfl)) pa_nil)))) pss_nil)
    (pss_cons (ps_if (pt_cmpR op_eq (pv 0) pe_int (nomark _)) (pss_one (L2N.ps_raise rfl tk (pmk_oexN (TE.ox 2 (by decide)) (TE.iC 2 (by decide) (by decide)) (TE.tI 2 (by decide) (by decide)) (F_E 2 (by decide) (by decide)).1 (hr.mono (by decide)) (F_E 2 (by decide) (by decide)).2 TE.g2 (pa_cons (pe_ix (ix_list_k (K := K)) (pv 1) pe_int (fun _ _ => rfl)) pa_nil)))) pss_nil)
    (pss_cons (ps_if (pt_cmpR op_eq (pv 0) pe_int (nomark _)) (pss_one (L2N.ps_raise rfl tk (pmk_oexN (TE.ox 3 (by decide)) (TE.iC 3 (by decide) (by decide)) (TE.tI 3 (by decide) (by decide)) (F_E 3 (by decide) (by decide)).1 (hr.mono (by decide)) (F_E 3 (by decide) (by decide)).2 TE.g3 (pa_cons (pe_ix (ix_list_k (K := K)) (pv 1) pe_int (fun _ _ => rfl)) (pa_cons (pe_ix (ix_list_k (K := K)) (pv 1) pe_int (fun _ _ => rfl)) pa_nil))))) pss_nil)
    (pss_cons (ps_if (pt_cmpR op_eq (pv 0) pe_int (nomark _)) (pss_one (L2N.ps_raise rfl tk (pmk_oexN (TE.ox 4 (by decide)) (TE.iC 4 (by decide) (by decide)) (TE.tI 4 (by decide) (by decide)) (F_E 4 (by decide) (by decide)).1 (hr.mono (by decide)) (F_E 4 (by decide) (by decide)).2 TE.g4 (pa_cons (pe_ix (ix_list_k (K := K)) (pv 1) pe_int (fun _ _ => rfl)) pa_nil)))) pss_nil)
    (pss_cons (ps_if (pt_cmpR op_eq (pv 0) pe_int (nomark _)) (pss_one (L2N.ps_raise rfl tk (pmk_oexN (TE.ox 5 (by decide)) (TE.iC 5 (by decide) (by decide)) (TE.tI 5 (by decide) (by decide)) (F_E 5 (by decide) (by decide)).1 (hr.mono (by decide)) (F_E 5 (by decide) (by decide)).2 TE.g5 (pa_cons (pe_ix (ix_list_k (K := K)) (pv 1) pe_int (fun _ _ => rfl)) pa_nil)))) pss_nil)
    (pss_cons (ps_if (pt_cmpR op_eq (pv 0) pe_int (nomark _)) (pss_one (L2N.ps_raise rfl tk (pmk_own0 F.excBase_ValueError (TE.e0 6 (by decide) rfl) TE.g6 (TE.ox 6 (by decide)).kC (raises_own (TE.ox 6 (by decide)).exC (TE.ox 6 (by decide)).tyC) rfl))) pss_nil)
    (pss_cons (ps_if (pt_cmpR op_eq (pv 0) pe_int (nomark _)) (pss_one (L2N.ps_raise rfl tk (pmk_oexN (TE.ox 7 (by decide)) (TE.iC 7 (by decide) (by decide)) (TE.tI 7 (by decide) (by decide)) (F_E 7 (by decide) (by decide)).1 (hr.mono (by decide)) (F_E 7 (by decide) (by decide)).2 TE.g7 (pa_cons (pe_ix (ix_list_k (K := K)) (pv 1) pe_int (fun _ _ => rfl)) pa_nil)))) pss_nil)
    (pss_cons (ps_if (pt_cmpR op_eq (pv 0) pe_int (nomark _)) (pss_one (L2N.ps_raise rfl tk (pmk_oexN (TE.ox 8 (by decide)) (TE.iC 8 (by decide) (by decide)) (TE.tI 8 (by decide) (by decide)) (F_E 8 (by decide) (by decide)).1 (hr.mono (by decide)) (F_E 8 (by decide) (by decide)).2 TE.g8 (pa_cons (pe_ix (ix_list_k (K := K)) (pv 1) pe_int (fun _ _ => rfl)) pa_nil)))) pss_nil)
    (pss_cons (ps_if (pt_cmpR op_eq (pv 0) pe_int (nomark _)) (pss_one (L2N.ps_raise rfl tk (pmk_own0 F.excBase_ValueError (TE.e0 9 (by decide) rfl) TE.g9 (TE.ox 9 (by decide)).kC (raises_own (TE.ox 9 (by decide)).exC (TE.ox 9 (by decide)).tyC) rfl))) pss_nil)
    (pss_cons (ps_if (pt_cmpR op_eq (pv 0) pe_int (nomark _)) (pss_one (L2N.ps_raise rfl tk (pmk_own0 F.excBase_ValueError (TE.e0 10 (by decide) rfl) TE.g10 (TE.ox 10 (by decide)).kC (raises_own (TE.ox 10 (by decide)).exC (TE.ox 10 (by decide)).tyC) rfl))) pss_nil)
    (pss_cons (ps_if (pt_cmpR op_eq (pv 0) pe_int (nomark _)) (pss_one (L2N.ps_raise rfl tk (pmk_oexN (TE.ox 11 (by decide)) (TE.iC 11 (by decide) (by decide)) (TE.tI 11 (by decide) (by decide)) (F_E 11 (by decide) (by decide)).1 (hr.mono (by decide)) (F_E 11 (by decide) (by decide)).2 TE.g11 (pa_cons (pe_ix (ix_list_k (K := K)) (pv 1) pe_int (fun _ _ => rfl)) pa_nil)))) pss_nil)
    (pss_cons (ps_if (pt_cmpR op_eq (pv 0) pe_int (nomark _)) (pss_one (L2N.ps_raise rfl tk (pmk_oexN (TE.ox 12 (by decide)) (TE.iC 12 (by decide) (by decide)) (TE.tI 12 (by decide) (by decide)) (F_E 12 (by decide) (by decide)).1 (hr.mono (by decide)) (F_E 12 (by decide) (by decide)).2 TE.g12 (pa_cons (pe_ix (ix_list_k (K := K)) (pv 1) pe_int (fun _ _ => rfl)) pa_nil)))) pss_nil)
    (pss_cons (ps_if (pt_cmpR op_eq (pv 0) pe_int (nomark _)) (pss_one (L2N.ps_raise rfl tk (pmk_oexN (TE.ox 13 (by decide)) (TE.iC 13 (by decide) (by decide)) (TE.tI 13 (by decide) (by decide)) (F_E 13 (by decide) (by decide)).1 (hr.mono (by decide)) (F_E 13 (by decide) (by decide)).2 TE.g13 (pa_cons (pe_ix (ix_list_k (K := K)) (pv 1) pe_int (fun _ _ => rfl)) pa_nil)))) pss_nil)
    (pss_cons (ps_if (pt_cmpR op_eq (pv 0) pe_int (nomark _)) (pss_one (L2N.ps_raise rfl tk (pmk_own0 F.excBase_ValueError (TE.e0 14 (by decide) rfl) TE.g14 (TE.ox 14 (by decide)).kC (raises_own (TE.ox 14 (by decide)).exC (TE.ox 14 (by decide)).tyC) rfl))) pss_nil)
    (pss_cons (ps_if (pt_cmpR op_eq (pv 0) pe_int (nomark _)) (pss_one (L2N.ps_raise rfl tk (pmk_own0 F.excBase_ValueError (TE.e0 15 (by decide) rfl) TE.g15 (TE.ox 15 (by decide)).kC (raises_own (TE.ox 15 (by decide)).exC (TE.ox 15 (by decide)).tyC) rfl))) pss_nil)
    (pss_cons (ps_if (pt_cmpR op_eq (pv 0) pe_int (nomark _)) (pss_one (L2N.ps_raise rfl tk (pmk_oexN (TE.ox 16 (by decide)) (TE.iC 16 (by decide) (by decide)) (TE.tI 16 (by decide) (by decide)) (F_E 16 (by decide) (by decide)).1 (hr.mono (by decide)) (F_E 16 (by decide) (by decide)).2 TE.g16 (pa_cons (pe_ix (ix_list_k (K := K)) (pv 1) pe_int (fun _ _ => rfl)) pa_nil)))) pss_nil)
    (pss_cons (ps_if (pt_cmpR op_eq (pv 0) pe_int (nomark _)) (pss_one (L2N.ps_raise rfl tk (pmk_oexN (TE.ox 17 (by decide)) (TE.iC 17 (by decide) (by decide)) (TE.tI 17 (by decide) (by decide)) (F_E 17 (by decide) (by decide)).1 (hr.mono (by decide)) (F_E 17 (by decide) (by decide)).2 TE.g17 (pa_cons (pe_ix (ix_list_k (K := K)) (pv 1) pe_int (fun _ _ => rfl)) pa_nil)))) pss_nil)
    (pss_cons (ps_if (pt_cmpR op_eq (pv 0) pe_int (nomark _)) (pss_one (L2N.ps_raise rfl tk (pmk_oexN (TE.ox 18 (by decide)) (TE.iC 18 (by decide) (by decide)) (TE.tI 18 (by decide) (by decide)) (F_E 18 (by decide) (by decide)).1 (hr.mono (by decide)) (F_E 18 (by decide) (by decide)).2 TE.g18 (pa_cons (pe_ix (ix_list_k (K := K)) (pv 1) pe_int (fun _ _ => rfl)) pa_nil)))) pss_nil)
    (pss_cons (ps_if (pt_cmpR op_eq (pv 0) pe_int (nomark _)) (pss_one (L2N.ps_raise rfl tk (pmk_oexN (TE.ox 19 (by decide)) (TE.iC 19 (by decide) (by decide)) (TE.tI 19 (by decide) (by decide)) (F_E 19 (by decide) (by decide)).1 (hr.mono (by decide)) (F_E 19 (by decide) (by decide)).2 TE.g19 (pa_cons (pe_ix (ix_list_k (K := K)) (pv 1) pe_int (fun _ _ => rfl)) pa_nil)))) pss_nil)
    (pss_cons (ps_if (pt_cmpR op_eq (pv 0) pe_int (nomark _)) (pss_one (L2N.ps_raise rfl tk (pmk_oexN (TE.ox 20 (by decide)) (TE.iC 20 (by decide) (by decide)) (TE.tI 20 (by decide) (by decide)) (F_E 20 (by decide) (by decide)).1 (hr.mono (by decide)) (F_E 20 (by decide) (by decide)).2 TE.g20 (pa_cons (pe_ix (ix_list_k (K := K)) (pv 1) pe_int (fun _ _ => rfl)) pa_nil)))) pss_nil)
    (pss_one (ps_if (pt_cmpR op_eq (pv 0) pe_int (nomark _)) (pss_one (L2N.ps_raise rfl tk (pmk_own0 F.excBase_ValueError (TE.e0 21 (by decide) rfl) TE.g21 (TE.ox 21 (by decide)).kC (raises_own (TE.ox 21 (by decide)).exC (TE.ox 21 (by decide)).tyC) rfl))) pss_nil)))))))))))))))))))))))) (.cons ⟨rfl, by decide, Or.inl TE.gS⟩ (fun a oe cls d pn hz hf => (pss_one (ps_ret (pe_cmpR (op_eqD_k (K := K) hr.units) (pe_callHp (HK a oe cls d hz.zc hf) (L2H.roomH_mark (hr.mono (by decide)) _) (hot1 hz hf) List.mem_cons_self (pa_cons (pv 3) pa_nil)) (pe_lcH (own := [("k", 2)]) (g := gName 2) (hot1 hz hf) List.mem_cons_self sc.nd (L2H.pi_range1H (by rfl) T.b_range (pa_cons pe_int pa_nil)) (blkOk_by (N := ["which", "given", "k", "e"]) (sc := defScope s__law_raised) (own := [("k", 2)]) (by decide +kernel)) (fun _ _ _ _ _ => (pg_name (i := 2) sc.nd rfl (Or.inl rfl))) (fun _ _ _ _ _ => (pe_cmpR op_eq (pv 2) (pv 0) (nomark _)))) (nomark _))))) .nil))
    (pss_one (ps_ret pe_bl))), ?_⟩
  have lc : ∀ {H1 : Hp} {a : Addr}, Er K (tLc (iRng1 (tCons (tC (.int 22)) tNil)) (gName 2) tYes (tOp rEq (tVar 2) (tVar 0)) [2]) [some (.int (wh : Int)), some xg, none, some (.ref a)] H1 (.n (kdV wh)) := er_kinds (v := 0) (era_cons er_c era_nil) (fun _ => rfl) fun i H1 e hi => Er.to (er_op (er_v rfl) (er_v rfl) ro_eqI) kd_int
  refine a_when (K := K) (b := decide ((wh : Int) = 0)) (et1 (er_op (er_v rfl) er_c ro_eqI)) (fun hb B e => ?_) fun hb0 A1 e1 => ?_
  · obtain rfl : wh = 0 := by have := of_decide_eq_true hb; omega
    refine x_mkE (fl := flT 0) (ok := okI) (era_cons (er_op (er_var rfl (hx.mono e)) er_c (ro_ixLd (i := 0) rfl)) era_nil) rfl (by decide) (fun e he => (hg.ok e (by revert he; simp; intro z; simp [z])).1) fun d fs2 B2 e2 hd2 => ⟨true, TE.eS 0 hw, fun _ ax hax => ?_, fun z => by cases z⟩
    exact a_rete (K := K) (er_op (er_callHH 0 (era_cons (er_var (d := .P (hotM ax (some d))) rfl ⟨rfl, fun dx q => by cases q; exact ⟨fs2, hd2⟩⟩) era_nil) rfl ⟨hw, rfl⟩) lc ro_eqK) rfl (e.trans e2) hk
  have F1 : Ex H A1 := e1
  refine a_when (K := K) (b := decide ((wh : Int) = 1)) (et1 (er_op (er_v rfl) er_c ro_eqI)) (fun hb B e => ?_) fun hb1 A2 e2 => ?_
  · obtain rfl : wh = 1 := by have := of_decide_eq_true hb; omega
    refine x_mkE (fl := flT 1) (ok := okI) (era_cons (er_op (er_var rfl (hx.mono (F1.trans e))) er_c (ro_ixLd (i := 0) rfl)) era_nil) rfl (by decide) (fun e he => (hg.ok e (by revert he; simp; intro z; simp [z])).1) fun d fs2 B2 e2 hd2 => ⟨true, TE.eS 1 hw, fun _ ax hax => ?_, fun z => by cases z⟩
    exact a_rete (K := K) (er_op (er_callHH 1 (era_cons (er_var (d := .P (hotM ax (some d))) rfl ⟨rfl, fun dx q => by cases q; exact ⟨fs2, hd2⟩⟩) era_nil) rfl ⟨hw, rfl⟩) lc ro_eqK) rfl ((F1.trans e).trans e2) hk
  have F2 : Ex H A2 := F1.trans e2
  refine a_when (K := K) (b := decide ((wh : Int) = 2)) (et1 (er_op (er_v rfl) er_c ro_eqI)) (fun hb B e => ?_) fun hb2 A3 e3 => ?_
  · obtain rfl : wh = 2 := by have := of_decide_eq_true hb; omega
    refine x_mkE (fl := flT 2) (ok := okI) (era_cons (er_op (er_var rfl (hx.mono (F2.trans e))) er_c (ro_ixLd (i := 2) rfl)) era_nil) rfl (by decide) (fun e he => (hg.ok e (by revert he; simp; intro z; simp [z])).1) fun d fs2 B2 e2 hd2 => ⟨true, TE.eS 2 hw, fun _ ax hax => ?_, fun z => by cases z⟩
    exact a_rete (K := K) (er_op (er_callHH 2 (era_cons (er_var (d := .P (hotM ax (some d))) rfl ⟨rfl, fun dx q => by cases q; exact ⟨fs2, hd2⟩⟩) era_nil) rfl ⟨hw, rfl⟩) lc ro_eqK) rfl ((F2.trans e).trans e2) hk
  have F3 : Ex H A3 := F2.trans e3
  refine a_when (K := K) (b := decide ((wh : Int) = 3)) (et1 (er_op (er_v rfl) er_c ro_eqI)) (fun hb B e => ?_) fun hb3 A4 e4 => ?_
  · obtain rfl : wh = 3 := by have := of_decide_eq_true hb; omega
    refine x_mkE (fl := flT 3) (ok := okI) (era_cons (er_op (er_var rfl (hx.mono (F3.trans e))) er_c (ro_ixLd (i := 0) rfl)) (era_cons (er_op (er_var rfl (hx.mono (F3.trans e))) er_c (ro_ixLd (i := 1) rfl)) era_nil)) rfl (by decide) (fun e he => (hg.ok e (by revert he; simp; rintro (z | z) <;> simp [z])).1) fun d fs2 B2 e2 hd2 => ⟨true, TE.eS 3 hw, fun _ ax hax => ?_, fun z => by cases z⟩
    exact a_rete (K := K) (er_op (er_callHH 3 (era_cons (er_var (d := .P (hotM ax (some d))) rfl ⟨rfl, fun dx q => by cases q; exact ⟨fs2, hd2⟩⟩) era_nil) rfl ⟨hw, rfl⟩) lc ro_eqK) rfl ((F3.trans e).trans e2) hk
  have F4 : Ex H A4 := F3.trans e4
  refine a_when (K := K) (b := decide ((wh : Int) = 4)) (et1 (er_op (er_v rfl) er_c ro_eqI)) (fun hb B e => ?_) fun hb4 A5 e5 => ?_
  · obtain rfl : wh = 4 := by have := of_decide_eq_true hb; omega
    refine x_mkE (fl := flT 4) (ok := okI) (era_cons (er_op (er_var rfl (hx.mono (F4.trans e))) er_c (ro_ixLd (i := 2) rfl)) era_nil) rfl (by decide) (fun e he => (hg.ok e (by revert he; simp; intro z; simp [z])).1) fun d fs2 B2 e2 hd2 => ⟨true, TE.eS 4 hw, fun _ ax hax => ?_, fun z => by cases z⟩
    exact a_rete (K := K) (er_op (er_callHH 4 (era_cons (er_var (d := .P (hotM ax (some d))) rfl ⟨rfl, fun dx q => by cases q; exact ⟨fs2, hd2⟩⟩) era_nil) rfl ⟨hw, rfl⟩) lc ro_eqK) rfl ((F4.trans e).trans e2) hk
  have F5 : Ex H A5 := F4.trans e5
  refine a_when (K := K) (b := decide ((wh : Int) = 5)) (et1 (er_op (er_v rfl) er_c ro_eqI)) (fun hb B e => ?_) fun hb5 A6 e6 => ?_
  · obtain rfl : wh = 5 := by have := of_decide_eq_true hb; omega
    refine x_mkE (fl := flT 5) (ok := okI) (era_cons (er_op (er_var rfl (hx.mono (F5.trans e))) er_c (ro_ixLd (i := 0) rfl)) era_nil) rfl (by decide) (fun e he => (hg.ok e (by revert he; simp; intro z; simp [z])).1) fun d fs2 B2 e2 hd2 => ⟨true, TE.eS 5 hw, fun _ ax hax => ?_, fun z => by cases z⟩
    exact a_rete (K := K) (er_op (er_callHH 5 (era_cons (er_var (d := .P (hotM ax (some d))) rfl ⟨rfl, fun dx q => by cases q; exact ⟨fs2, hd2⟩⟩) era_nil) rfl ⟨hw, rfl⟩) lc ro_eqK) rfl ((F5.trans e).trans e2) hk
  have F6 : Ex H A6 := F5.trans e6
  refine a_when (K := K) (b := decide ((wh : Int) = 6)) (et1 (er_op (er_v rfl) er_c ro_eqI)) (fun hb B e => ?_) fun hb6 A7 e7 => ?_
  · obtain rfl : wh = 6 := by have := of_decide_eq_true hb; omega
    refine ⟨true, TE.eS 6 hw, fun _ ax hax => ?_, fun z => by cases z⟩
    exact a_rete (K := K) (er_op (er_callHH 6 (era_cons (er_var (d := .P (hotM ax none)) rfl ⟨rfl, fun dx q => by cases q⟩) era_nil) rfl ⟨hw, rfl⟩) lc ro_eqK) rfl (F6.trans e) hk
  have F7 : Ex H A7 := F6.trans e7
  refine a_when (K := K) (b := decide ((wh : Int) = 7)) (et1 (er_op (er_v rfl) er_c ro_eqI)) (fun hb B e => ?_) fun hb7 A8 e8 => ?_
  · obtain rfl : wh = 7 := by have := of_decide_eq_true hb; omega
    refine x_mkE (fl := flT 7) (ok := okI) (era_cons (er_op (er_var rfl (hx.mono (F7.trans e))) er_c (ro_ixLd (i := 4) rfl)) era_nil) rfl (by decide) (fun e he => (hg.ok e (by revert he; simp; intro z; simp [z])).1) fun d fs2 B2 e2 hd2 => ⟨true, TE.eS 7 hw, fun _ ax hax => ?_, fun z => by cases z⟩
    exact a_rete (K := K) (er_op (er_callHH 7 (era_cons (er_var (d := .P (hotM ax (some d))) rfl ⟨rfl, fun dx q => by cases q; exact ⟨fs2, hd2⟩⟩) era_nil) rfl ⟨hw, rfl⟩) lc ro_eqK) rfl ((F7.trans e).trans e2) hk
  have F8 : Ex H A8 := F7.trans e8
  refine a_when (K := K) (b := decide ((wh : Int) = 8)) (et1 (er_op (er_v rfl) er_c ro_eqI)) (fun hb B e => ?_) fun hb8 A9 e9 => ?_
  · obtain rfl : wh = 8 := by have := of_decide_eq_true hb; omega
    refine x_mkE (fl := flT 8) (ok := okI) (era_cons (er_op (er_var rfl (hx.mono (F8.trans e))) er_c (ro_ixLd (i := 3) rfl)) era_nil) rfl (by decide) (fun e he => (hg.ok e (by revert he; simp; intro z; simp [z])).1) fun d fs2 B2 e2 hd2 => ⟨true, TE.eS 8 hw, fun _ ax hax => ?_, fun z => by cases z⟩
    exact a_rete (K := K) (er_op (er_callHH 8 (era_cons (er_var (d := .P (hotM ax (some d))) rfl ⟨rfl, fun dx q => by cases q; exact ⟨fs2, hd2⟩⟩) era_nil) rfl ⟨hw, rfl⟩) lc ro_eqK) rfl ((F8.trans e).trans e2) hk
  have F9 : Ex H A9 := F8.trans e9
  refine a_when (K := K) (b := decide ((wh : Int) = 9)) (et1 (er_op (er_v rfl) er_c ro_eqI)) (fun hb B e => ?_) fun hb9 A10 e10 => ?_
  · obtain rfl : wh = 9 := by have := of_decide_eq_true hb; omega
    refine ⟨true, TE.eS 9 hw, fun _ ax hax => ?_, fun z => by cases z⟩
    exact a_rete (K := K) (er_op (er_callHH 9 (era_cons (er_var (d := .P (hotM ax none)) rfl ⟨rfl, fun dx q => by cases q⟩) era_nil) rfl ⟨hw, rfl⟩) lc ro_eqK) rfl (F9.trans e) hk
  have F10 : Ex H A10 := F9.trans e10
  refine a_when (K := K) (b := decide ((wh : Int) = 10)) (et1 (er_op (er_v rfl) er_c ro_eqI)) (fun hb B e => ?_) fun hb10 A11 e11 => ?_
  · obtain rfl : wh = 10 := by have := of_decide_eq_true hb; omega
    refine ⟨true, TE.eS 10 hw, fun _ ax hax => ?_, fun z => by cases z⟩
    exact a_rete (K := K) (er_op (er_callHH 10 (era_cons (er_var (d := .P (hotM ax none)) rfl ⟨rfl, fun dx q => by cases q⟩) era_nil) rfl ⟨hw, rfl⟩) lc ro_eqK) rfl (F10.trans e) hk
  have F11 : Ex H A11 := F10.trans e11
  refine a_when (K := K) (b := decide ((wh : Int) = 11)) (et1 (er_op (er_v rfl) er_c ro_eqI)) (fun hb B e => ?_) fun hb11 A12 e12 => ?_
  · obtain rfl : wh = 11 := by have := of_decide_eq_true hb; omega
    refine x_mkE (fl := flT 11) (ok := okI) (era_cons (er_op (er_var rfl (hx.mono (F11.trans e))) er_c (ro_ixLd (i := 0) rfl)) era_nil) rfl (by decide) (fun e he => (hg.ok e (by revert he; simp; intro z; simp [z])).1) fun d fs2 B2 e2 hd2 => ⟨true, TE.eS 11 hw, fun _ ax hax => ?_, fun z => by cases z⟩
    exact a_rete (K := K) (er_op (er_callHH 11 (era_cons (er_var (d := .P (hotM ax (some d))) rfl ⟨rfl, fun dx q => by cases q; exact ⟨fs2, hd2⟩⟩) era_nil) rfl ⟨hw, rfl⟩) lc ro_eqK) rfl ((F11.trans e).trans e2) hk
  have F12 : Ex H A12 := F11.trans e12
  refine a_when (K := K) (b := decide ((wh : Int) = 12)) (et1 (er_op (er_v rfl) er_c ro_eqI)) (fun hb B e => ?_) fun hb12 A13 e13 => ?_
  · obtain rfl : wh = 12 := by have := of_decide_eq_true hb; omega
    refine x_mkE (fl := flT 12) (ok := okI) (era_cons (er_op (er_var rfl (hx.mono (F12.trans e))) er_c (ro_ixLd (i := 0) rfl)) era_nil) rfl (by decide) (fun e he => (hg.ok e (by revert he; simp; intro z; simp [z])).1) fun d fs2 B2 e2 hd2 => ⟨true, TE.eS 12 hw, fun _ ax hax => ?_, fun z => by cases z⟩
    exact a_rete (K := K) (er_op (er_callHH 12 (era_cons (er_var (d := .P (hotM ax (some d))) rfl ⟨rfl, fun dx q => by cases q; exact ⟨fs2, hd2⟩⟩) era_nil) rfl ⟨hw, rfl⟩) lc ro_eqK) rfl ((F12.trans e).trans e2) hk
  have F13 : Ex H A13 := F12.trans e13
  refine a_when (K := K) (b := decide ((wh : Int) = 13)) (et1 (er_op (er_v rfl) er_c ro_eqI)) (fun hb B e => ?_) fun hb13 A14 e14 => ?_
  · obtain rfl : wh = 13 := by have := of_decide_eq_true hb; omega
    refine x_mkE (fl := flT 13) (ok := okI) (era_cons (er_op (er_var rfl (hx.mono (F13.trans e))) er_c (ro_ixLd (i := 2) rfl)) era_nil) rfl (by decide) (fun e he => (hg.ok e (by revert he; simp; intro z; simp [z])).1) fun d fs2 B2 e2 hd2 => ⟨true, TE.eS 13 hw, fun _ ax hax => ?_, fun z => by cases z⟩
    exact a_rete (K := K) (er_op (er_callHH 13 (era_cons (er_var (d := .P (hotM ax (some d))) rfl ⟨rfl, fun dx q => by cases q; exact ⟨fs2, hd2⟩⟩) era_nil) rfl ⟨hw, rfl⟩) lc ro_eqK) rfl ((F13.trans e).trans e2) hk
  have F14 : Ex H A14 := F13.trans e14
  refine a_when (K := K) (b := decide ((wh : Int) = 14)) (et1 (er_op (er_v rfl) er_c ro_eqI)) (fun hb B e => ?_) fun hb14 A15 e15 => ?_
  · obtain rfl : wh = 14 := by have := of_decide_eq_true hb; omega
    refine ⟨true, TE.eS 14 hw, fun _ ax hax => ?_, fun z => by cases z⟩
    exact a_rete (K := K) (er_op (er_callHH 14 (era_cons (er_var (d := .P (hotM ax none)) rfl ⟨rfl, fun dx q => by cases q⟩) era_nil) rfl ⟨hw, rfl⟩) lc ro_eqK) rfl (F14.trans e) hk
  have F15 : Ex H A15 := F14.trans e15
  refine a_when (K := K) (b := decide ((wh : Int) = 15)) (et1 (er_op (er_v rfl) er_c ro_eqI)) (fun hb B e => ?_) fun hb15 A16 e16 => ?_
  · obtain rfl : wh = 15 := by have := of_decide_eq_true hb; omega
    refine ⟨true, TE.eS 15 hw, fun _ ax hax => ?_, fun z => by cases z⟩
    exact a_rete (K := K) (er_op (er_callHH 15 (era_cons (er_var (d := .P (hotM ax none)) rfl ⟨rfl, fun dx q => by cases q⟩) era_nil) rfl ⟨hw, rfl⟩) lc ro_eqK) rfl (F15.trans e) hk
  have F16 : Ex H A16 := F15.trans e16
  refine a_when (K := K) (b := decide ((wh : Int) = 16)) (et1 (er_op (er_v rfl) er_c ro_eqI)) (fun hb B e => ?_) fun hb16 A17 e17 => ?_
  · obtain rfl : wh = 16 := by have := of_decide_eq_true hb; omega
    refine x_mkE (fl := flT 16) (ok := okI) (era_cons (er_op (er_var rfl (hx.mono (F16.trans e))) er_c (ro_ixLd (i := 0) rfl)) era_nil) rfl (by decide) (fun e he => (hg.ok e (by revert he; simp; intro z; simp [z])).1) fun d fs2 B2 e2 hd2 => ⟨true, TE.eS 16 hw, fun _ ax hax => ?_, fun z => by cases z⟩
    exact a_rete (K := K) (er_op (er_callHH 16 (era_cons (er_var (d := .P (hotM ax (some d))) rfl ⟨rfl, fun dx q => by cases q; exact ⟨fs2, hd2⟩⟩) era_nil) rfl ⟨hw, rfl⟩) lc ro_eqK) rfl ((F16.trans e).trans e2) hk
  have F17 : Ex H A17 := F16.trans e17
  refine a_when (K := K) (b := decide ((wh : Int) = 17)) (et1 (er_op (er_v rfl) er_c ro_eqI)) (fun hb B e => ?_) fun hb17 A18 e18 => ?_
  · obtain rfl : wh = 17 := by have := of_decide_eq_true hb; omega
    refine x_mkE (fl := flT 17) (ok := okI) (era_cons (er_op (er_var rfl (hx.mono (F17.trans e))) er_c (ro_ixLd (i := 5) rfl)) era_nil) rfl (by decide) (fun e he => (hg.ok e (by revert he; simp; intro z; simp [z])).1) fun d fs2 B2 e2 hd2 => ⟨true, TE.eS 17 hw, fun _ ax hax => ?_, fun z => by cases z⟩
    exact a_rete (K := K) (er_op (er_callHH 17 (era_cons (er_var (d := .P (hotM ax (some d))) rfl ⟨rfl, fun dx q => by cases q; exact ⟨fs2, hd2⟩⟩) era_nil) rfl ⟨hw, rfl⟩) lc ro_eqK) rfl ((F17.trans e).trans e2) hk
  have F18 : Ex H A18 := F17.trans e18
  refine a_when (K := K) (b := decide ((wh : Int) = 18)) (et1 (er_op (er_v rfl) er_c ro_eqI)) (fun hb B e => ?_) fun hb18 A19 e19 => ?_
  · obtain rfl : wh = 18 := by have := of_decide_eq_true hb; omega
    refine x_mkE (fl := flT 18) (ok := okI) (era_cons (er_op (er_var rfl (hx.mono (F18.trans e))) er_c (ro_ixLd (i := 0) rfl)) era_nil) rfl (by decide) (fun e he => (hg.ok e (by revert he; simp; intro z; simp [z])).1) fun d fs2 B2 e2 hd2 => ⟨true, TE.eS 18 hw, fun _ ax hax => ?_, fun z => by cases z⟩
    exact a_rete (K := K) (er_op (er_callHH 18 (era_cons (er_var (d := .P (hotM ax (some d))) rfl ⟨rfl, fun dx q => by cases q; exact ⟨fs2, hd2⟩⟩) era_nil) rfl ⟨hw, rfl⟩) lc ro_eqK) rfl ((F18.trans e).trans e2) hk
  have F19 : Ex H A19 := F18.trans e19
  refine a_when (K := K) (b := decide ((wh : Int) = 19)) (et1 (er_op (er_v rfl) er_c ro_eqI)) (fun hb B e => ?_) fun hb19 A20 e20 => ?_
  · obtain rfl : wh = 19 := by have := of_decide_eq_true hb; omega
    refine x_mkE (fl := flT 19) (ok := okI) (era_cons (er_op (er_var rfl (hx.mono (F19.trans e))) er_c (ro_ixLd (i := 4) rfl)) era_nil) rfl (by decide) (fun e he => (hg.ok e (by revert he; simp; intro z; simp [z])).1) fun d fs2 B2 e2 hd2 => ⟨true, TE.eS 19 hw, fun _ ax hax => ?_, fun z => by cases z⟩
    exact a_rete (K := K) (er_op (er_callHH 19 (era_cons (er_var (d := .P (hotM ax (some d))) rfl ⟨rfl, fun dx q => by cases q; exact ⟨fs2, hd2⟩⟩) era_nil) rfl ⟨hw, rfl⟩) lc ro_eqK) rfl ((F19.trans e).trans e2) hk
  have F20 : Ex H A20 := F19.trans e20
  refine a_when (K := K) (b := decide ((wh : Int) = 20)) (et1 (er_op (er_v rfl) er_c ro_eqI)) (fun hb B e => ?_) fun hb20 A21 e21 => ?_
  · obtain rfl : wh = 20 := by have := of_decide_eq_true hb; omega
    refine x_mkE (fl := flT 20) (ok := okI) (era_cons (er_op (er_var rfl (hx.mono (F20.trans e))) er_c (ro_ixLd (i := 0) rfl)) era_nil) rfl (by decide) (fun e he => (hg.ok e (by revert he; simp; intro z; simp [z])).1) fun d fs2 B2 e2 hd2 => ⟨true, TE.eS 20 hw, fun _ ax hax => ?_, fun z => by cases z⟩
    exact a_rete (K := K) (er_op (er_callHH 20 (era_cons (er_var (d := .P (hotM ax (some d))) rfl ⟨rfl, fun dx q => by cases q; exact ⟨fs2, hd2⟩⟩) era_nil) rfl ⟨hw, rfl⟩) lc ro_eqK) rfl ((F20.trans e).trans e2) hk
  have F21 : Ex H A21 := F20.trans e21
  refine a_when (K := K) (b := decide ((wh : Int) = 21)) (et1 (er_op (er_v rfl) er_c ro_eqI)) (fun hb B e => ?_) fun hb21 A22 e22 => ?_
  · obtain rfl : wh = 21 := by have := of_decide_eq_true hb; omega
    refine ⟨true, TE.eS 21 hw, fun _ ax hax => ?_, fun z => by cases z⟩
    exact a_rete (K := K) (er_op (er_callHH 21 (era_cons (er_var (d := .P (hotM ax none)) rfl ⟨rfl, fun dx q => by cases q⟩) era_nil) rfl ⟨hw, rfl⟩) lc ro_eqK) rfl (F21.trans e) hk
  have F22 : Ex H A22 := F21.trans e22
  simp only [decide_eq_false_iff_not] at hb0 hb1 hb2 hb3 hb4 hb5 hb6 hb7 hb8 hb9 hb10 hb11 hb12 hb13 hb14 hb15 hb16 hb17 hb18 hb19 hb20 hb21
  exfalso
  omega
end
end Mi

set_option maxHeartbeats 4000000
namespace Mi
open PySem PySem.Spec PyProof.Rows L2 Evl
local macro_rules | `(tactic| walk_at "side") => `(tactic| (first | assumption | omega | exact rfl | decide | (simp only [List.length_cons, List.length_nil, List.length_map, List.length_append, List.length_replicate] <;> omega)))
local macro_rules | `(tactic| walk_at "ro") => `(tactic| (first
  | with_reducible exact ro_I0
  | with_reducible exact ro_1018
  | with_reducible exact ro_neC
  | with_reducible exact ro_eqC
  | with_reducible exact ro_neI
  | with_reducible exact ro_eqI
  | with_reducible exact ro_neB
  | with_reducible exact ro_eqB
  | ((with_reducible apply ro_mod); (walk_at "side"))
  | ((with_reducible apply ro_div) <;> (walk_at "side"))
  | ((with_reducible apply ro_divW) <;> (walk_at "side"))
  | with_reducible exact ro_1012
  | with_reducible exact ro_1015
  | ((with_reducible apply ro_mulL) <;> (walk_at "side"))
  | ((with_reducible apply ro_mulR) <;> (walk_at "side"))
  | ((with_reducible apply ro_addC); (walk_at "side"))
  | ((with_reducible apply ro_ixC) <;> (walk_at "side"))
  | ((with_reducible apply ro_ixI) <;> (walk_at "side"))
  | ((with_reducible apply ro_ixIN) <;> (walk_at "side"))
  | ((with_reducible apply ro_ixT2) <;> (walk_at "side"))
  | ((with_reducible apply ro_ixG) <;> (walk_at "side"))
  | ((with_reducible apply ro_eq); exact rfl)
  | ((with_reducible apply ro_ne); exact rfl)
  | with_reducible exact ro_isN
  | with_reducible exact ro_notN
  | with_reducible exact ro_eqL
  | with_reducible exact ro_neL
  | with_reducible exact ro_eqU
  | ((with_reducible apply ro_cat); (walk_at "side"))
  | with_reducible exact ro_inLi
  | with_reducible exact ro_inNi
  | with_reducible exact ro_inUi
  | ((with_reducible apply ro_inL) <;> (walk_at "side"))
  | ((with_reducible apply ro_inN) <;> (walk_at "side"))
  | ((with_reducible apply ro_inU) <;> (walk_at "side"))))
local macro_rules | `(tactic| walk_at "rc") => `(tactic| (first
  | with_reducible exact rc_int
  | with_reducible exact rc_intB
  | with_reducible exact rc_max2
  | ((with_reducible apply rc_lenC); (walk_at "side"))
  | with_reducible exact rc_lenI
  | with_reducible exact rc_lenT
  | with_reducible exact rc_lenIN
  | with_reducible exact rc_lenTN
  | with_reducible exact rc_lenL
  | with_reducible exact rc_lenN
  | with_reducible exact rc_lenU
  | with_reducible exact rc_listL
  | with_reducible exact rc_listU
  | with_reducible exact rc_tupL
  | with_reducible exact rc_tupN
  | ((with_reducible apply rc_isi_int); decide +kernel)
  | ((with_reducible apply rc_isi_str); decide +kernel)
  | ((with_reducible apply rc_isi_bl); decide +kernel)
  | ((with_reducible apply rc_isi_non); decide +kernel)
  | ((with_reducible apply rc_isi_u); decide +kernel)
  | ((with_reducible apply rc_isi_l); decide +kernel)))
local macro_rules | `(tactic| walk_at "er") => `(tactic| (first
  | ((with_reducible apply er_var); (exact rfl); assumption)
  | ((with_reducible apply er_v); exact rfl)
  | with_reducible exact er_c
  | ((with_reducible apply er_pick); (walk_at "er"); (walk_at "er"); (walk_at "er"))
  | ((with_reducible apply er_op); (walk_at "er"); (walk_at "er"); (walk_at "ro"))
  | ((with_reducible apply er_cb); (walk_at "era"); (walk_at "rc"))
  | ((with_reducible apply er_lst'); (walk_at "era"); (exact rfl); (walk_at "side"))
  | ((with_reducible apply er_tup'); (walk_at "era"); (exact rfl); (walk_at "side"))
  | ((with_reducible apply er_notV); (walk_at "er"))
  | ((with_reducible apply er_andV); (walk_at "er"); (intro _; (walk_at "er")))
  | ((with_reducible apply er_orV); (walk_at "er"); (intro _; (walk_at "er")))
  | ((with_reducible apply er_ite); (walk_at "et"); (intro _; (walk_at "er")); (intro _; (walk_at "er")))))
local macro_rules | `(tactic| walk_at "era") => `(tactic| (first
  | with_reducible exact era_nil
  | ((with_reducible apply era_cons); (walk_at "er"); (walk_at "era"))))
local macro_rules | `(tactic| walk_at "et") => `(tactic| (first
  | ((with_reducible apply et_an); (walk_at "et"); (intro _; (walk_at "et")))
  | ((with_reducible apply et_orr); (walk_at "et"); (intro _; (walk_at "et")))
  | ((with_reducible apply et_nt); (walk_at "et"))
  | ((with_reducible apply et1); (walk_at "er"))
  | ((with_reducible apply et2); (walk_at "er"))))

section
variable {P : Program} {w : World} {K : PySem.W.Frag} {mg : Str → Option Value} {base : Heap}
/-! ### lists of numbers, slices of tuples, seen at once -/
section
variable {σ : L2.St} {G A : Hp} {te tl tb ta : TE} {tr : TA} {d : Dd} {ds : List Dd}
theorem ef_lstn {vs : List V} (h : Era K tr σ G (vs.map Dd.v)) (hl : vs.length ≤ 100000) : Ef K (tLst tr) σ G (.n vs) := fun G1 A e1 e2 Q q =>
  h A (e1.trans e2) _ fun ws H2 e z => by
    have ew := flat_all z
    subst ew
    exact ⟨sz_of hl, fun p hp => q _ (upd G1 p (.lst ws)) _ ((Step.on e2 e).trans (Step.new (e2.trans e) hp)) ⟨p, rfl, upd_same⟩⟩
theorem rof_cat {xs zs : List V} (h : xs.length + zs.length ≤ 100000) : Rof K rCat (.n xs) (.n zs) (.n (xs ++ zs)) := by
  rintro _ _ G A e ⟨p, rfl, hp⟩ ⟨p', rfl, hp'⟩ Q q
  exact ⟨p, p', xs, zs, rfl, rfl, e p _ hp, e p' _ hp', sz_of h, fun l hl => q _ (upd G l (.lst (xs ++ zs))) _ (Step.new e hl) ⟨l, rfl, upd_same⟩⟩
theorem rof_rep {xs : List V} {k : Nat} (h : xs.length * k ≤ 100000) (hk : k ≤ 100000) : Rof K rRep (.n xs) (.v (.int (k : Int))) (.n (List.replicate k xs).flatten) := by
  rintro _ _ G A e ⟨p, rfl, hp⟩ rfl Q q
  exact ⟨p, k, xs, rfl, rfl, e p _ hp, by omega, by omega, by rw [Int.toNat_natCast]; exact sz_of h, fun l hl => q _ (upd G l (.lst (List.replicate k xs).flatten)) _ (by rw [Int.toNat_natCast]; exact Step.new e hl) ⟨l, rfl, upd_same⟩⟩
theorem Ef.n2l {xs : List V} (h : Ef K te σ G (.n xs)) : Ef K te σ G (.l xs) := fun G1 A e1 e2 Q q => h G1 A e1 e2 Q fun v G' A' s z => q v G' A' s z.n2l
theorem ef_slMid {n m : Nat} {xs : List V} (h : Ef K te σ G (.l xs)) (h1 : Er K ta σ G (.i (n : Int))) (h2 : Er K tb σ G (.i (m : Int))) (hnm : n ≤ m) (hm : m ≤ xs.length) : Ef K (tSl (rSlL K) te (tPart ta) (tPart tb)) σ G (.n ((xs.drop n).take (m - n))) := fun G1 A1 e1 e2 _ q =>
  h G1 A1 e1 e2 _ fun v G2 A2 s2 ⟨p, ep, hp⟩ => eo_of h1 A2 ((e1.trans s2.g).trans s2.v) _ fun A3 e3 => eo_of h2 A3 (((e1.trans s2.g).trans s2.v).trans e3) _ fun A4 e4 => by
    subst ep
    have s4 := s2.trans (Step.on s2.v (e3.trans e4))
    have ec : cutV xs (some (n : Int)) (some (m : Int)) = (xs.drop n).take (m - n) := by
      unfold cutV
      rw [HT.sIx_nat, HT.sIx_nat, Nat.min_eq_left (by omega), Nat.min_eq_left (by omega)]
    refine ⟨p, xs, rfl, ex_l s4.v hp, fun l hl => q _ (upd G2 l (.lst ((xs.drop n).take (m - n)))) _ ?_ ⟨l, rfl, upd_same⟩⟩
    rw [ec]
    exact s4.trans (Step.new s4.v hl)
theorem ef_slU {n : Nat} (h : Ef K te σ G (.U ds)) (h2 : Er K tb σ G (.i (n : Int))) : Ef K (tSl (rSlA K) te tNoPart (tPart tb)) σ G (.U (ds.take n)) := fun G1 A1 e1 e2 _ q =>
  h G1 A1 e1 e2 _ fun v G2 A2 s2 ⟨p, vs, ep, hp, hE⟩ => eo_non A2 ((e1.trans s2.g).trans s2.v) _ fun A3 e3 => eo_of h2 A3 (((e1.trans s2.g).trans s2.v).trans e3) _ fun A4 e4 => by
    subst ep
    have s4 := s2.trans (Step.on s2.v (e3.trans e4))
    have ec : cutV vs none (some (n : Int)) = vs.take n := by
      unfold cutV
      rw [HT.sIx_none, HT.sIx_nat]
      rw [List.drop_zero, Nat.sub_zero, List.take_eq_take_iff]
      omega
    refine ⟨p, vs, rfl, ex_t s4.v hp, fun hw => q _ G2 A4 s4 ?_, fun _ l hl => q _ (upd G2 l (.tup (cutV vs none (some (n : Int))))) _ (s4.trans (Step.new s4.v hl)) ⟨l, _, rfl, st_of upd_same, ?_⟩⟩
    · have e0 : cutV vs none (some (n : Int)) = vs := by
        unfold cutV
        rw [hw.1, hw.2, List.drop_zero, Nat.sub_zero, List.take_length]
      rw [ec] at e0
      refine ⟨p, vs, rfl, hp, ?_⟩
      have := isE_take n hE
      rwa [e0] at this
    · rw [ec]
      exact isE_take n (IsE.mono (Ex.new (ex_out s4.v hl)) hE)
end
theorem is_cast2 {d d' : Dd} {x : V} {H : Hp} (h : Is K H d x) (e : d = d') : Is K H d' x := e ▸ h
/-! ### what is given -/
def szG : List Int := [8, 26, 36, 36, 36, 36, 36, 36, 36, 5, 5, 40, 40, 40, 40, 40, 40, 40, 40, 40, 40]
theorem szG_ok : szG.length ≤ 1000 ∧ ∀ s ∈ szG, 0 < s ∧ s < 1000000 := by decide
def wdD (dm : List Int) : List Dd := (List.range (dm.getD 9 0).toNat).map fun j => Dd.s (S ((nameT dm).take (1 + j)))
def spD (dm : List Int) : List Dd := (vis ((dm.drop 11).take (dm.getD 10 0).toNat)).map Dd.v
def itD (dm : List Int) : List Dd := [.s (S (nameT dm)), .i (dm.getD 10 0), .U (wdD dm), .U [.U (spD dm), .v .non]]
def gvD (ns : List Int) (k : Nat) (dm : List Int) : List Dd := [.i ([dm.getD 11 0, cellM ns (k + 1)].getD (dm.getD 12 0 % 2).toNat 0), .i (dm.getD 13 0 - 5), .s (S (nameT dm)), .U (wdD dm), .U ((itD dm).take (dm.getD 9 0).toNat), .U (spD dm)]
abbrev drG (ns : List Int) (k : Nat) : List Int := drawM ns k szG
theorem na_ok {ns : List Int} {k : Nat} : NaOk (drG ns k) := by
  have hl : (drG ns k).length = 21 := by rw [drawM_len]; rfl
  have hb : ∀ i, i < 21 → 0 ≤ (drG ns k).getD i 0 ∧ (drG ns k).getD i 0 < szG.getD i 0 := fun i hi => drawM_bd (fun s hs => (szG_ok.2 s hs).1) hi
  have h0 := hb 0 (by decide)
  have h0' : (drG ns k).getD 0 0 < 8 := h0.2
  have hn : nameN (drG ns k) ≤ 8 := by
    unfold nameN
    omega
  refine ⟨by omega, ⟨h0.1, h0'⟩, by omega, fun j hj => ?_⟩
  have hj8 : j < 8 := by omega
  have hz := hb (1 + j) (by omega)
  have q : ∀ j, j < 8 → szG.getD (1 + j) 0 ≤ 36 := by decide
  have := q j hj8
  omega
theorem depL_le {ds : List Dd} {n : Nat} (h : ∀ d ∈ ds, depD d ≤ n) : depL ds ≤ n := by
  induction ds with
  | nil => exact Nat.zero_le n
  | cons d r ih =>
    have h1 := h d (List.mem_cons_self ..)
    have h2 := ih fun e he => h e (List.mem_cons_of_mem _ he)
    show max (depD d) (depL r) ≤ n
    omega
def Gd (n : Nat) (d : Dd) : Prop := okA d ∧ depD d ≤ n ∧ okPy n d
theorem gd_U {ds : List Dd} {n : Nat} (hl : ds.length ≤ 1000) (h : ∀ d ∈ ds, Gd n d) : Gd (n + 1) (.U ds) := by
  refine ⟨?_, ?_, ?_⟩
  · unfold okA
    refine ⟨?_, hl⟩
    clear hl
    induction ds with
    | nil => unfold okAL; trivial
    | cons d r ih => unfold okAL; exact ⟨(h d (List.mem_cons_self ..)).1, ih fun e he => h e (List.mem_cons_of_mem _ he)⟩
  · show depL ds + 1 ≤ n + 1
    have := depL_le fun d hd => (h d hd).2.1
    omega
  · unfold okPy
    clear hl
    induction ds with
    | nil => unfold okPyL; trivial
    | cons d r ih => unfold okPyL; exact ⟨(h d (List.mem_cons_self ..)).2.2, ih fun e he => h e (List.mem_cons_of_mem _ he)⟩
theorem gd_s {t : List Nat} {n : Nat} (h : okT t) : Gd n (.s (S t)) := ⟨by unfold okA; exact h, Nat.zero_le n, by unfold okPy; exact h⟩
theorem gd_i {i : Int} {n : Nat} : Gd n (.i i) := ⟨by unfold okA; trivial, Nat.zero_le n, by unfold okPy; trivial⟩
theorem gd_n {n : Nat} : Gd n (.v .non) := ⟨by unfold okA; trivial, Nat.zero_le n, by unfold okPy; trivial⟩
mutual
theorem okPy_le : ∀ {d : Dd} {n m : Nat}, n ≤ m → okPy n d → okPy m d
  | .v x, n, m, e, h => by unfold okPy at h ⊢; exact h
  | .l xs, n, m, e, h => by unfold okPy at h ⊢; exact ⟨by omega, h.2⟩
  | .n xs, n, m, e, h => by unfold okPy at h ⊢; exact ⟨by omega, h.2⟩
  | .u xs, n, m, e, h => by unfold okPy at h ⊢; exact ⟨by omega, h.2⟩
  | .L ds, 0, m, e, h => by unfold okPy at h; exact h.elim
  | .L ds, n + 1, 0, e, h => by omega
  | .L ds, n + 1, m + 1, e, h => by unfold okPy at h ⊢; exact okPyL_le (by omega) h
  | .N ds, 0, m, e, h => by unfold okPy at h; exact h.elim
  | .N ds, n + 1, 0, e, h => by omega
  | .N ds, n + 1, m + 1, e, h => by unfold okPy at h ⊢; exact okPyL_le (by omega) h
  | .U ds, 0, m, e, h => by unfold okPy at h; exact h.elim
  | .U ds, n + 1, 0, e, h => by omega
  | .U ds, n + 1, m + 1, e, h => by unfold okPy at h ⊢; exact okPyL_le (by omega) h
  | .D, n, m, e, h => by unfold okPy at h; exact h.elim
  | .P q, n, m, e, h => by unfold okPy at h; exact h.elim
theorem okPyL_le : ∀ {ds : List Dd} {n m : Nat}, n ≤ m → okPyL n ds → okPyL m ds
  | [], n, m, e, h => by unfold okPyL; trivial
  | d :: r, n, m, e, h => by unfold okPyL at h ⊢; exact ⟨okPy_le e h.1, okPyL_le e h.2⟩
end
theorem Gd.mono {n m : Nat} {d : Dd} (e : n ≤ m) (h : Gd n d) : Gd m d := ⟨h.1, Nat.le_trans h.2.1 e, okPy_le e h.2.2⟩
theorem okT_nm {ns : List Int} {k j : Nat} : okT ((nameT (drG ns k)).take j) := okT_of fun c hc => by
  have := (nameT_ok (na_ok (ns := ns) (k := k))).1.c c (List.mem_of_mem_take hc)
  omega
theorem okT_nm0 {ns : List Int} {k : Nat} : okT (nameT (drG ns k)) := okT_of fun c hc => by
  have := (nameT_ok (na_ok (ns := ns) (k := k))).1.c c hc
  omega
theorem gv_ok {ns : List Int} {k : Nat} : GvK (gvD ns k (drG ns k)) := by
  have hl : (drG ns k).length = 21 := by rw [drawM_len]; rfl
  have hb : ∀ i, i < 21 → 0 ≤ (drG ns k).getD i 0 ∧ (drG ns k).getD i 0 < szG.getD i 0 := fun i hi => drawM_bd (fun s hs => (szG_ok.2 s hs).1) hi
  have h9 : 0 ≤ (drG ns k).getD 9 0 ∧ (drG ns k).getD 9 0 < 5 := hb 9 (by decide)
  have gW : Gd 1 (.U (wdD (drG ns k))) := gd_U (by rw [wdD, List.length_map, List.length_range]; omega) fun d hd => by
    obtain ⟨j, _, rfl⟩ := List.mem_map.mp hd
    exact gd_s okT_nm
  have gS : Gd 1 (.U (spD (drG ns k))) := gd_U (by simp [spD]; omega) fun d hd => by
    obtain ⟨v, hv, rfl⟩ := List.mem_map.mp hd
    obtain ⟨i, _, rfl⟩ := List.mem_map.mp hv
    exact gd_i
  have gI : Gd 3 (.U ((itD (drG ns k)).take ((drG ns k).getD 9 0).toNat)) := gd_U (by simp [itD]; omega) fun d hd => by
    have hd := List.mem_of_mem_take hd
    simp only [itD, List.mem_cons, List.not_mem_nil, or_false] at hd
    rcases hd with rfl | rfl | rfl | rfl
    · exact gd_s okT_nm0
    · exact gd_i
    · exact gW.mono (by decide)
    · refine gd_U (by simp) fun e he => ?_
      simp only [List.mem_cons, List.not_mem_nil, or_false] at he
      rcases he with rfl | rfl
      · exact gS
      · exact gd_n
  have all : ∀ d ∈ gvD ns k (drG ns k), Gd 3 d := fun d hd => by
    simp only [gvD, List.mem_cons, List.not_mem_nil, or_false] at hd
    rcases hd with rfl | rfl | rfl | rfl | rfl | rfl
    · exact gd_i
    · exact gd_i
    · exact gd_s okT_nm0
    · exact gW.mono (by decide)
    · exact gI
    · exact gS.mono (by decide)
  exact ⟨rfl, fun d hd => by
    have q := all d hd
    exact ⟨⟨q.1, Nat.lt_of_le_of_lt q.2.1 (by decide)⟩, okPy_le (by decide) q.2.2⟩⟩
abbrev s__law_given : Stmt := topS 35
theorem sc__law_given : FnScope ["script", "k", "digits", "number", "text", "words", "spots", "items", "j"] ["script", "k"] (defScope s__law_given) := ⟨rfl, rfl, rfl, by decide +kernel, rfl, by decide +kernel, by decide +kernel⟩

abbrev sp__law_given (K : PySem.W.Frag) : Sp := spF K (fun a : List Int × Nat => a.1.length ≤ 63 ∧ a.2 ≤ 900) (fun a => [.l (vis a.1), .i (a.2 : Int)]) fun a => .N (gvD a.1 a.2 (drG a.1 a.2))
theorem has__law_given (T : Txt K mg) (h : At K mg "_law_given" s__law_given ["script", "k"]) (C__law_cell : Has P w K mg base 1 "_law_cell" ["script", "k"] (sp__law_cell K)) (C__law_draw : Has P w K mg base 2 "_law_draw" ["script", "k", "sizes"] (sp__law_draw K)) (C__law_name : Has P w K mg base 1 "_law_name" ["spots"] (sp__law_name K)) : Has P w K mg base 3 "_law_given" ["script", "k"] (sp__law_given K) := by
  refine h.hasF sc__law_given (fun _ => rfl) fun f cdv Ar outer s G A a vs Q E hr hp hA hv hk => ?_
  obtain ⟨ns, kk⟩ := a
  obtain ⟨hn, hkk⟩ := hp
  replace hn : ns.length ≤ 63 := hn
  replace hkk : kk ≤ 900 := hkk
  rcases hv with _ | ⟨hs, _ | ⟨rfl, _ | _⟩⟩
  rename_i xs
  replace hs : Is K G (.l (vis ns)) xs := hs
  have sc := sc__law_given
  have hna := na_ok (ns := ns) (k := kk)
  have hto := (nameT_ok hna).1
  have hl : (drG ns kk).length = 21 := by rw [drawM_len]; rfl
  have hb : ∀ i, i < 21 → 0 ≤ (drG ns kk).getD i 0 ∧ (drG ns kk).getD i 0 < szG.getD i 0 := fun i hi => drawM_bd (fun s hs => (szG_ok.2 s hs).1) hi
  have h9 : 0 ≤ (drG ns kk).getD 9 0 ∧ (drG ns kk).getD 9 0 < 5 := hb 9 (by decide)
  have h10 : 0 ≤ (drG ns kk).getD 10 0 ∧ (drG ns kk).getD 10 0 < 5 := hb 10 (by decide)
  refine ⟨_, (pss_cons (ps_set (i := 2) sc.nd rfl (Or.inl rfl) (pe_callH C__law_draw (hr.mono (by decide)) (pa_cons (pv 0) (pa_cons (pv 1) (pa_cons (pe_op op_cat (pe_op op_cat (pe_op op_cat (pe_lst (pa_cons pe_int (pa_cons pe_int pa_nil))) (pe_op op_rep (pe_lst (pa_cons pe_int pa_nil)) pe_int)) (pe_lst (pa_cons pe_int (pa_cons pe_int pa_nil)))) (pe_op op_rep (pe_lst (pa_cons pe_int pa_nil)) pe_int)) pa_nil)))))
    (pss_cons (ps_set (i := 3) sc.nd rfl (Or.inl rfl) (pe_callTy cr_int (by rfl) T.b_int (by decide +kernel) (pa_cons (pe_callH C__law_cell (hr.mono (by decide)) (pa_cons (pv 0) (pa_cons (pe_op op_add (pv 1) pe_int) pa_nil))) pa_nil)))
    (pss_cons (ps_set (i := 4) sc.nd rfl (Or.inr rfl) (pe_callH C__law_name (hr.mono (by decide)) (pa_cons (pv 2) pa_nil)))
    (pss_cons (ps_set (i := 5) sc.nd rfl (Or.inl rfl) (pe_callTy (cr_tuple_k (K := K)) (by rfl) T.b_tuple (by decide +kernel) (pa_cons (pe_lc (own := [("j", 8)]) (g := gName 8) (by rfl) sc.nd (pi_range1 (by rfl) T.b_range (pa_cons (pe_ix (ix_list_k (K := K)) (pv 2) pe_int (fun _ _ => rfl)) pa_nil)) (blkOk_by (N := ["script", "k", "digits", "number", "text", "words", "spots", "items", "j"]) (sc := defScope s__law_given) (own := [("j", 8)]) (by decide +kernel)) (fun _ _ _ _ _ => (pg_name (i := 8) sc.nd rfl (Or.inl rfl))) (fun _ _ _ _ _ => pts_nil) (fun _ _ _ _ _ => (pe_slice sl_str (pv 4) po_none (po_some (pe_op op_add pe_int (pv 8)))))) pa_nil)))
    (pss_cons (ps_set (i := 6) sc.nd rfl (Or.inl rfl) (pe_callTy (cr_tuple_k (K := K)) (by rfl) T.b_tuple (by decide +kernel) (pa_cons (pe_slice (sl_list_k (K := K)) (pv 2) (po_some pe_int) (po_some (pe_op op_add pe_int (pe_ix (ix_list_k (K := K)) (pv 2) pe_int (fun _ _ => rfl))))) pa_nil)))
    (pss_cons (ps_set (i := 7) sc.nd rfl (Or.inl rfl) (pe_tup (pa_cons (pv 4) (pa_cons (pe_ix (ix_list_k (K := K)) (pv 2) pe_int (fun _ _ => rfl)) (pa_cons (pv 5) (pa_cons (pe_tup (pa_cons (pv 6) (pa_cons pe_non pa_nil))) pa_nil))))))
    (pss_one (ps_ret (pe_lst (pa_cons (pe_ix (ix_list_k (K := K)) (pe_lst (pa_cons (pe_ix (ix_list_k (K := K)) (pv 2) pe_int (fun _ _ => rfl)) (pa_cons (pv 3) pa_nil))) (pe_op op_mod (pe_ix (ix_list_k (K := K)) (pv 2) pe_int (fun _ _ => rfl)) pe_int) (fun _ _ => rfl)) (pa_cons (pe_op op_sub (pe_ix (ix_list_k (K := K)) (pv 2) pe_int (fun _ _ => rfl)) pe_int) (pa_cons (pv 4) (pa_cons (pv 5) (pa_cons (pe_slice (sl_tup_k (K := K)) (pv 7) po_none (po_some (pe_ix (ix_list_k (K := K)) (pv 2) pe_int (fun _ _ => rfl)))) (pa_cons (pv 6) pa_nil))))))))))))))), ?_⟩
  refine s_set (K := K) (G := G) (ef_call (ns, kk, szG) (efa_cons (ef_var rfl hs) (efa_cons (ef_flat (er_v rfl)) (efa_cons (Ef.n2l (Ef.to (ef_op (ef_op (ef_op (ef_lstn (vs := vis [8, 26]) (era_cons er_c (era_cons er_c era_nil)) (by decide)) (ef_op (ef_lstn (vs := vis [36]) (era_cons er_c era_nil) (by decide)) (ef_flat er_c) (rof_rep (k := 7) (by decide) (by decide))) (rof_cat (by decide))) (ef_lstn (vs := vis [5, 5]) (era_cons er_c (era_cons er_c era_nil)) (by decide)) (rof_cat (by decide))) (ef_op (ef_lstn (vs := vis [40]) (era_cons er_c era_nil) (by decide)) (ef_flat er_c) (rof_rep (k := 10) (by decide) (by decide))) (rof_cat (by decide))) (d' := .n (vis szG)) rfl)) efa_nil))) rfl ⟨hn, by show kk ≤ 1000; omega, szG_ok.1, szG_ok.2⟩) hA fun xd G1 A1 s1 hd => ?_
  generalize hdm : drG ns kk = dm at hna hto hl hb h9 h10
  have hd : Is K G1 (.l (vis dm)) xd := by
    have z : Is K G1 (.n (vis (drG ns kk))) xd := hd
    rw [hdm] at z
    exact z.n2l
  refine a_setv (K := K) (x := .int (cellM ns (kk + 1))) (er_cb (era_cons (er_call (ns, kk + 1) (era_cons (er_var rfl (hs.mono (s1.g.trans s1.v))) (era_cons (Er.to (er_op (er_v rfl) er_c ro_I0) rfl) era_nil)) (by rfl) ⟨hn, by show kk + 1 ≤ 1000; omega⟩) era_nil) rc_int) fun A2 e2 => ?_
  have x2 : Ex G1 A2 := s1.v.trans e2
  refine a_setv (K := K) (x := .str (S (nameT dm))) (er_call dm (era_cons (er_var rfl (hd.mono x2)) era_nil) rfl hna) fun A3 e3 => ?_
  have x3 : Ex G1 A3 := x2.trans e3
  have dg : ∀ {σ : L2.St} {H : Hp} (z : Int), σ[2]? = some (some xd) → Ex G1 H → 0 ≤ z → z < 21 → Er K (tOp (rIxL K) (tVar 2) (tC (.int z))) σ H (.i (dm.getD z.toNat 0)) := fun z hv e h0 h1 => er_op (er_var hv (hd.mono e)) er_c (ro_ixI h0 (by omega))
  have n9 : (((dm.getD 9 0).toNat : Nat) : Int) = dm.getD 9 0 := by omega
  have n10 : (((dm.getD 10 0).toNat : Nat) : Int) = dm.getD 10 0 := by omega
  refine s_set (K := K) (G := G1) (d := .U (wdD dm)) (ef_cb (efa_cons (Ef.to (ef_lc (K := K) (its := List.range (dm.getD 9 0).toNat) (inj := fun j : Nat => Dd.i (j : Int)) (vs := [8]) (fun _ => true) (fun j => Dd.s (S ((nameT dm).take (1 + j)))) (if_range (n := (dm.getD 9 0).toNat) (era_cons (Er.to (dg 9 rfl (Ex.refl _) (by decide) (by decide)) (by rw [n9]; rfl)) era_nil) (by omega)) (by rw [List.length_range]; omega) ?_) (by rw [filt_true]; rfl)) efa_nil) rf_tupN) x3 fun xw G4 A4 s4 hw4 => ?_
  · intro j jj v G' A' eg ea hi hv
    obtain rfl : v = V.int (jj : Int) := hv
    refine ⟨[some xs, some (.int (kk : Int)), some xd, some (.int (cellM ns (kk + 1))), some (.str (S (nameT dm))), none, none, none, some (.int (jj : Int))], fun Q q => q, rfl, fun H6 e6 Q q => q H6 (Ex.refl H6), fun _ => ?_⟩
    exact ef_flat (er_slTo (n := 1 + jj) (er_v rfl) (by have := hto.l; omega) (Er.to (er_op er_c (er_v rfl) ro_I0) (by simp)))
  refine s_set (K := K) (G := G4) (d := .U (spD dm)) (ef_cb (efa_cons (Ef.as (ef_slMid (n := 11) (m := 11 + (dm.getD 10 0).toNat) (xs := vis dm) (ef_var rfl (hd.mono s4.g)) er_c (Er.to (er_op er_c (dg 10 rfl s4.g (by decide) (by decide)) ro_I0) (by show Dd.i (11 + dm.getD 10 0) = _; congr 2; omega)) (by omega) (by show _ ≤ (dm.map V.int).length; rw [List.length_map, hl]; omega)) fun _ _ z => (is_cast2 z.n2N (by rw [spD]; simp))) efa_nil) rf_tupN) s4.v fun xp G5 A5 s5 hp5 => ?_
  refine s_set (K := K) (G := G5) (d := .U (itD dm)) (ef_U (efa_cons (ef_flat (er_v rfl)) (efa_cons (ef_flat (dg 10 rfl (s4.g.trans s5.g) (by decide) (by decide))) (efa_cons (ef_var rfl (hw4.mono s5.g)) (efa_cons (ef_U (efa_cons (ef_var rfl hp5) (efa_cons (ef_flat er_c) efa_nil)) (Nat.le_of_ble_eq_true rfl)) efa_nil)))) (Nat.le_of_ble_eq_true rfl)) s5.v fun xi G6 A6 s6 hi6 => ?_
  have g6 : Ex G1 G6 := (s4.g.trans s5.g).trans s6.g
  have m12 : 0 ≤ dm.getD 12 0 % 2 ∧ dm.getD 12 0 % 2 < 2 := ⟨Int.emod_nonneg _ (by decide), Int.emod_lt_of_pos _ (by decide)⟩
  refine s_ret (K := K) (G := G6) (d' := .N (gvD ns kk dm)) (ef_N (efa_cons (ef_flat (er_op (Er.n2l (er_lst (vs := vis [dm.getD 11 0, cellM ns (kk + 1)]) (era_cons (dg 11 rfl g6 (by decide) (by decide)) (era_cons (er_v rfl) era_nil)) (Nat.le_of_ble_eq_true rfl))) (er_op (dg 12 rfl g6 (by decide) (by decide)) er_c (ro_mod (by decide))) (ro_ixI m12.1 (by show _ < ((2 : Nat) : Int); omega)))) (efa_cons (ef_flat (er_op (dg 13 rfl g6 (by decide) (by decide)) er_c ro_I0)) (efa_cons (ef_flat (er_v rfl)) (efa_cons (ef_var rfl (hw4.mono (s5.g.trans s6.g))) (efa_cons (ef_slU (n := (dm.getD 9 0).toNat) (ef_var rfl hi6) (Er.to (dg 9 rfl g6 (by decide) (by decide)) (by rw [n9]; rfl))) (efa_cons (ef_var rfl (hp5.mono s6.g)) efa_nil)))))) (Nat.le_of_ble_eq_true rfl)) s6.v rfl fun v G7 A7 s7 z => ?_
  refine hk v G7 A7 ((((((s1.trans (Step.on s1.v e2)).trans (Step.on x2 e3)).trans s4).trans s5).trans s6).trans s7) ?_
  show Is K G7 (.N (gvD ns kk (drG ns kk))) v
  rw [hdm]
  exact z
end
end Mi

set_option maxHeartbeats 4000000
namespace Mi
open PySem PySem.Spec PyProof.Rows L2 Evl
local macro_rules | `(tactic| walk_at "side") => `(tactic| (first | assumption | omega | exact rfl | decide | (simp only [List.length_cons, List.length_nil, List.length_map, List.length_append, List.length_replicate] <;> omega)))
local macro_rules | `(tactic| walk_at "ro") => `(tactic| (first
  | with_reducible exact ro_I0
  | with_reducible exact ro_1018
  | with_reducible exact ro_neC
  | with_reducible exact ro_eqC
  | with_reducible exact ro_neI
  | with_reducible exact ro_eqI
  | with_reducible exact ro_neB
  | with_reducible exact ro_eqB
  | ((with_reducible apply ro_mod); (walk_at "side"))
  | ((with_reducible apply ro_div) <;> (walk_at "side"))
  | ((with_reducible apply ro_divW) <;> (walk_at "side"))
  | with_reducible exact ro_1012
  | with_reducible exact ro_1015
  | ((with_reducible apply ro_mulL) <;> (walk_at "side"))
  | ((with_reducible apply ro_mulR) <;> (walk_at "side"))
  | ((with_reducible apply ro_addC); (walk_at "side"))
  | ((with_reducible apply ro_ixC) <;> (walk_at "side"))
  | ((with_reducible apply ro_ixI) <;> (walk_at "side"))
  | ((with_reducible apply ro_ixIN) <;> (walk_at "side"))
  | ((with_reducible apply ro_ixT2) <;> (walk_at "side"))
  | ((with_reducible apply ro_ixG) <;> (walk_at "side"))
  | ((with_reducible apply ro_eq); exact rfl)
  | ((with_reducible apply ro_ne); exact rfl)
  | with_reducible exact ro_isN
  | with_reducible exact ro_notN
  | with_reducible exact ro_eqL
  | with_reducible exact ro_neL
  | with_reducible exact ro_eqU
  | ((with_reducible apply ro_cat); (walk_at "side"))
  | with_reducible exact ro_inLi
  | with_reducible exact ro_inNi
  | with_reducible exact ro_inUi
  | ((with_reducible apply ro_inL) <;> (walk_at "side"))
  | ((with_reducible apply ro_inN) <;> (walk_at "side"))
  | ((with_reducible apply ro_inU) <;> (walk_at "side"))))
local macro_rules | `(tactic| walk_at "rc") => `(tactic| (first
  | with_reducible exact rc_int
  | with_reducible exact rc_intB
  | with_reducible exact rc_max2
  | ((with_reducible apply rc_lenC); (walk_at "side"))
  | with_reducible exact rc_lenI
  | with_reducible exact rc_lenT
  | with_reducible exact rc_lenIN
  | with_reducible exact rc_lenTN
  | with_reducible exact rc_lenL
  | with_reducible exact rc_lenN
  | with_reducible exact rc_lenU
  | with_reducible exact rc_listL
  | with_reducible exact rc_listU
  | with_reducible exact rc_tupL
  | with_reducible exact rc_tupN
  | ((with_reducible apply rc_isi_int); decide +kernel)
  | ((with_reducible apply rc_isi_str); decide +kernel)
  | ((with_reducible apply rc_isi_bl); decide +kernel)
  | ((with_reducible apply rc_isi_non); decide +kernel)
  | ((with_reducible apply rc_isi_u); decide +kernel)
  | ((with_reducible apply rc_isi_l); decide +kernel)))
local macro_rules | `(tactic| walk_at "er") => `(tactic| (first
  | ((with_reducible apply er_var); (exact rfl); assumption)
  | ((with_reducible apply er_v); exact rfl)
  | with_reducible exact er_c
  | ((with_reducible apply er_pick); (walk_at "er"); (walk_at "er"); (walk_at "er"))
  | ((with_reducible apply er_op); (walk_at "er"); (walk_at "er"); (walk_at "ro"))
  | ((with_reducible apply er_cb); (walk_at "era"); (walk_at "rc"))
  | ((with_reducible apply er_lst'); (walk_at "era"); (exact rfl); (walk_at "side"))
  | ((with_reducible apply er_tup'); (walk_at "era"); (exact rfl); (walk_at "side"))
  | ((with_reducible apply er_notV); (walk_at "er"))
  | ((with_reducible apply er_andV); (walk_at "er"); (intro _; (walk_at "er")))
  | ((with_reducible apply er_orV); (walk_at "er"); (intro _; (walk_at "er")))
  | ((with_reducible apply er_ite); (walk_at "et"); (intro _; (walk_at "er")); (intro _; (walk_at "er")))))
local macro_rules | `(tactic| walk_at "era") => `(tactic| (first
  | with_reducible exact era_nil
  | ((with_reducible apply era_cons); (walk_at "er"); (walk_at "era"))))
local macro_rules | `(tactic| walk_at "et") => `(tactic| (first
  | ((with_reducible apply et_an); (walk_at "et"); (intro _; (walk_at "et")))
  | ((with_reducible apply et_orr); (walk_at "et"); (intro _; (walk_at "et")))
  | ((with_reducible apply et_nt); (walk_at "et"))
  | ((with_reducible apply et1); (walk_at "er"))
  | ((with_reducible apply et2); (walk_at "er"))))

section
variable {P : Program} {w : World} {K : PySem.W.Frag} {mg : Str → Option Value} {base : Heap}
theorem ro_neR {d : Dd} (h : okPy 64 d) : Ro K (rNeD K) d d (.b false) := by
  rintro v1 v2 H1 z1 z2 Q q
  obtain ⟨_, a2, _⟩ := dpk_of h z1
  have e : PyData.eqv (pyD d) (pyD d) = true := SeqAt.eqv_refl _ a2
  refine ro_neP h h v1 v2 H1 z1 z2 Q ?_
  rw [e]
  exact q
theorem flD_ok {wh : Nat} {ds : List Dd} (hw : wh < 22) (h : GvK ds) : okPy 64 (.N (flD wh ds)) := by
  unfold okPy flD
  refine okPyL_map fun k hk => ?_
  have q : ∀ v, v < 22 → ∀ k ∈ ixT v, k < 6 := by decide
  have hk6 := q wh hw k hk
  have hl : ds.length = 6 := h.l
  rw [List.getD_eq_getElem?_getD, List.getElem?_eq_getElem (by omega)]
  exact okPy_le (by decide) (h.ok _ (List.getElem_mem (by omega))).2
abbrev s_law : Stmt := topS 36
theorem sc_law : FnScope ["script", "drawn", "which", "errors", "k", "error", "given", "j"] ["script"] (defScope s_law) := ⟨rfl, rfl, rfl, by decide +kernel, rfl, by decide +kernel, by decide +kernel⟩

abbrev spLaw (K : PySem.W.Frag) : Sp := spR K (fun ns : List Int => ns.length ≤ 63) (fun ns => [.l (vis ns)]) fun _ => .b true
theorem fn_law {Cs fs : Nat → Addr} {CS f0 : Addr} {fd0 : FuncData} (T : Txt K mg) (TE : ErAll K mg Cs fs CS) (F : Fun K "law" "law" s_law f0 fd0) (C__law_given : Has P w K mg base 3 "_law_given" ["script", "k"] (sp__law_given K)) (C__law_made : Has P w K mg base 8 "_law_made" ["which", "given"] (sp__law_made K Cs)) (C__law_kinds : Has P w K mg base 1 "_law_kinds" ["error"] (sp__law_kinds K Cs)) (C__law_fields : Has P w K mg base 1 "_law_fields" ["which", "error"] (sp__law_fields K Cs)) (C__law_due : Has P w K mg base 1 "_law_due" ["which", "given"] (sp__law_due K)) (C__law_raised : Has P w K mg base 8 "_law_raised" ["which", "given"] (sp__law_raised K)) : FnOk P w K mg base CX0 9 f0 fd0 ["script"] (spLaw K) := by
  refine fnR F sc_law (fun _ => rfl) fun f cdv A outer s H ns vs Q E hr hp hv hk => ?_
  replace hp : ns.length ≤ 63 := hp
  rcases hv with _ | ⟨hs, _ | _⟩
  rename_i x
  replace hs : Is K H (.l (vis ns)) x := hs
  have sc := sc_law
  refine ⟨_, (pss_cons (ps_setLc (i := 1) (own := [("k", 4)]) (g := gName 4) (by rfl) sc.nd rfl rfl (sw_true rfl rfl rfl (by decide +kernel)) (pi_range1 (by rfl) T.b_range (pa_cons pe_int pa_nil)) (blkOk_by (N := ["script", "drawn", "which", "errors", "k", "error", "given", "j"]) (sc := defScope s_law) (own := [("k", 4)]) (by decide +kernel)) (fun _ _ _ _ _ => (pg_name (i := 4) sc.nd rfl (Or.inl rfl))) (fun _ _ _ _ _ => pts_nil) (fun _ _ _ _ _ => (pe_callH C__law_given (hr.mono (by decide)) (pa_cons (pv 0) (pa_cons (pe_op op_mul pe_int (pv 4)) pa_nil)))))
    (pss_cons (ps_for PassesOwn.never rfl (pi_range1 (by rfl) T.b_range (pa_cons pe_int pa_nil)) (pg_name (i := 2) sc.nd rfl (Or.inr rfl)) (pss_cons (ps_setLc (i := 3) (own := [("given", 6)]) (g := gName 6) (by rfl) sc.nd rfl rfl (sw_true rfl rfl rfl (by decide +kernel)) (pi_list_k (K := K) (pv 1)) (blkOk_by (N := ["script", "drawn", "which", "errors", "k", "error", "given", "j"]) (sc := defScope s_law) (own := [("given", 6)]) (by decide +kernel)) (fun _ _ _ _ _ => (pg_name (i := 6) sc.nd rfl (Or.inl rfl))) (fun _ _ _ _ _ => pts_nil) (fun _ _ _ _ _ => (pe_callH C__law_made (hr.mono (by decide)) (pa_cons (pv 2) (pa_cons (pv 6) pa_nil)))))
    (pss_cons (ps_for PassesOwn.never rfl (pi_range1 (by rfl) T.b_range (pa_cons pe_int pa_nil)) (pg_name (i := 4) sc.nd rfl (Or.inl rfl)) (pss_cons (ps_set (i := 5) sc.nd rfl (Or.inl rfl) (pe_ix (ix_list_k (K := K)) (pv 3) (pv 4) (fun _ _ => rfl)))
    (pss_cons (ps_if (PW.pt (pw_or (pt_not (pt_val (pe_callB (call_isV (K := K)) (by rfl) T.b_isinstance (by decide +kernel) (pa_cons (pv 5) (pa_cons (pe_glob (v := .ref CS) rfl TE.gS rfl) pa_nil))))) (pw_or1 (pt_not (pt_val (pe_callB (call_isV (K := K)) (by rfl) T.b_isinstance (by decide +kernel) (pa_cons (pv 5) (pa_cons (pe_bltn (v := .ty "ValueError") (by rfl) TE.bV (by decide +kernel) rfl) pa_nil)))))))) (pss_one (ps_ret pe_bl)) pss_nil)
    (pss_cons (ps_if (pt_cmpR (op_neD_k (K := K) hr.units) (pe_callH C__law_kinds (hr.mono (by decide)) (pa_cons (pv 5) pa_nil)) (pe_lc (own := [("j", 7)]) (g := gName 7) (by rfl) sc.nd (pi_range1 (by rfl) T.b_range (pa_cons pe_int pa_nil)) (blkOk_by (N := ["script", "drawn", "which", "errors", "k", "error", "given", "j"]) (sc := defScope s_law) (own := [("j", 7)]) (by decide +kernel)) (fun _ _ _ _ _ => (pg_name (i := 7) sc.nd rfl (Or.inl rfl))) (fun _ _ _ _ _ => pts_nil) (fun _ _ _ _ _ => (pe_cmpR op_eq (pv 7) (pv 2) (nomark _)))) (nomark _)) (pss_one (ps_ret pe_bl)) pss_nil)
    (pss_one (ps_if (pt_cmpR (op_neD_k (K := K) hr.units) (pe_callH C__law_fields (hr.mono (by decide)) (pa_cons (pv 2) (pa_cons (pv 5) pa_nil))) (pe_callH C__law_due (hr.mono (by decide)) (pa_cons (pv 2) (pa_cons (pe_ix (ix_list_k (K := K)) (pv 1) (pv 4) (fun _ _ => rfl)) pa_nil))) (nomark _)) (pss_one (ps_ret pe_bl)) pss_nil))))))
    (pss_one (ps_if (pt_not (pt_val (pe_callH C__law_raised (hr.mono (by decide)) (pa_cons (pv 2) (pa_cons (pe_ix (ix_list_k (K := K)) (pv 1) pe_int (fun _ _ => rfl)) pa_nil))))) (pss_one (ps_ret pe_bl)) pss_nil)))))
    (pss_one (ps_ret pe_bl)))), ?_⟩
  have gok : ∀ j, GvK (gvD ns (2 * j) (drG ns (2 * j))) := fun j => gv_ok
  generalize hgd : (fun j => gvD ns (2 * j) (drG ns (2 * j))) = gd at gok
  have egd : ∀ j, gvD ns (2 * j) (drG ns (2 * j)) = gd j := fun j => by rw [← hgd]
  replace gok : ∀ j, GvK (gd j) := fun j => by rw [← egd]; exact gok j
  refine a_asg (K := K) (d := .L ((List.range 3).map fun j => Dd.L (gd j))) (Er.as (d := .N ((List.range 3).map fun j => Dd.N (gd j))) (Ef.er (Ef.to (ef_lc (K := K) (its := List.range 3) (inj := fun j : Nat => Dd.i (j : Int)) (vs := [4]) (fun _ => true) (fun j => Dd.N (gd j)) (if_range (n := 3) (era_cons er_c era_nil) (by decide)) (by simp) ?_) (by rw [filt_true]))) fun Hx v z => ?_) fun xd H1 e1 hd => ?_
  · intro j jj v G' A' eg ea hi hv
    obtain rfl : v = V.int (jj : Int) := hv
    obtain ⟨hj, rfl⟩ := List.getElem?_eq_some_iff.mp hi
    rw [List.length_range] at hj
    rw [List.getElem_range]
    refine ⟨[some x, none, none, none, some (.int (j : Int)), none, none, none], fun Q q => q, rfl, fun H6 e6 Q q => q H6 (Ex.refl H6), fun _ => ?_⟩
    rw [← egd]
    exact ef_call (ns, 2 * j) (efa_cons (ef_var rfl (hs.mono eg)) (efa_cons (ef_flat (Er.to (er_op er_c (er_v rfl) (ro_mulL (by decide) (by omega))) (by simp))) efa_nil)) rfl ⟨hp, by show 2 * j ≤ 900; omega⟩
  · obtain ⟨p, us, rfl, hp1, hE⟩ := z.N2L
    exact ⟨p, us, rfl, hp1, isE_map (fun _ _ _ z => z.N2L) hE⟩
  refine b_forR1 (K := K) (n := 22) (era_cons er_c era_nil) (by decide) (fun i σ' H' => ∃ o2 o3 o4 o5, σ' = [some x, some xd, o2, o3, o4, o5, none, none] ∧ Ex H1 H') (fun H2 e2 => ⟨none, none, none, none, rfl, e2⟩) ?_ ?_
  · rintro i σ' H2 hi ⟨o2, o3, o4, o5, rfl, e2⟩
    have hd2 := hd.mono e2
    refine a_asg (K := K) (d := .N ((List.range 3).map fun j => erD K Cs i (gd j))) (Ef.er (Ef.to (ef_lc (K := K) (its := List.range 3) (inj := fun j : Nat => Dd.L (gd j)) (vs := [6]) (fun _ => true) (fun j => erD K Cs i (gd j)) (if_list (ef_var rfl hd2)) (by simp) ?_) (by rw [filt_true]))) fun xe H3 e3 he => ?_
    · intro j jj v G' A' eg ea hjj hv
      refine ⟨[some x, some xd, some (.int (i : Int)), o3, o4, o5, some v, none], fun Q q => q, rfl, fun H6 e6 Q q => q H6 (Ex.refl H6), fun _ => ?_⟩
      exact ef_call (i, gd jj) (efa_cons (ef_flat (er_v rfl)) (efa_cons (ef_var rfl hv) efa_nil)) rfl ⟨hi, gok jj⟩
    have E3 := e2.trans e3
    refine b_forR1 (K := K) (n := 3) (era_cons er_c era_nil) (by decide) (fun k σ' H' => ∃ o4 o5, σ' = [some x, some xd, some (.int (i : Int)), some xe, o4, o5, none, none] ∧ Ex H3 H') (fun H4 e4 => ⟨o4, o5, rfl, e4⟩) ?_ ?_
    · rintro k σ' H4 hk3 ⟨p4, p5, rfl, e4⟩
      refine a_asg (K := K) (d := erD K Cs i (gd k)) (er_op (er_var rfl (he.mono e4)) (er_v rfl) (ro_ixNd (i := k) (by rw [List.getElem?_map, List.getElem?_range hk3]; rfl))) fun xr H5 e5 hx => ?_
      refine a_when (K := K) (b := !true || !true) (et_orr (et_nt (et2 (er_isV (.ref CS) (er_var rfl hx) er_c (TE.xd i hi) (fun u r => r) (TE.kS i hi)))) fun _ => et_nt (et2 (er_isV (.type "ValueError") (er_var rfl hx) er_c (TE.xd i hi) (fun u r => r) (TE.kV i hi)))) (fun hb => by simp at hb) fun _ H6 e6 => ?_
      refine a_when (K := K) (b := false) (et1 (er_op (er_call (i, gd k) (era_cons (er_var rfl (hx.mono e6)) era_nil) rfl hi) (er_kinds (v := 0) (wh := i) (era_cons er_c era_nil) (fun _ => rfl) fun j H7 e7 hj => Er.to (er_op (er_v rfl) (er_v rfl) ro_eqI) kd_int) ro_neK)) (fun hb => by cases hb) fun _ H7 e7 => ?_
      refine a_when1 (K := K) (b := false) (et1 (er_op (er_call (i, gd k) (era_cons (er_v rfl) (era_cons (er_var rfl (hx.mono (e6.trans e7))) era_nil)) rfl ⟨hi, gok k⟩) (er_call (i, gd k) (era_cons (er_v rfl) (era_cons (er_op (er_var rfl (hd2.mono (((e3.trans e4).trans e5).trans (e6.trans e7)))) (er_v rfl) (ro_ixLd (i := k) (by rw [List.getElem?_map, List.getElem?_range hk3]; rfl))) era_nil)) rfl ⟨hi, gok k⟩) (ro_neR (flD_ok hi (gok k))))) (fun hb => by cases hb) fun _ H8 e8 => ⟨_, _, rfl, (((e4.trans e5).trans e6).trans e7).trans e8⟩
    · rintro σ' H4 ⟨p4, p5, rfl, e4⟩
      refine a_when1 (K := K) (b := !true) (et_nt (et2 (er_call (ret := fun _ : EA => .b true) (i, gd 0) (era_cons (er_v rfl) (era_cons (er_op (er_var rfl (hd2.mono (e3.trans e4))) er_c (ro_ixLd (i := 0) rfl)) era_nil)) rfl ⟨hi, gok 0⟩))) (fun hb => by cases hb) fun _ H5 e5 => ⟨_, _, _, _, rfl, ((e2.trans e3).trans e4).trans e5⟩
  · rintro σ' H2 ⟨o2, o3, o4, o5, rfl, e2⟩
    exact a_rete (K := K) er_c rfl (e1.trans e2) hk
end
end Mi

set_option maxHeartbeats 4000000
namespace Mi
open PySem PySem.Spec PyProof.Rows L2 Evl
local macro_rules | `(tactic| walk_at "side") => `(tactic| (first | assumption | omega | exact rfl | decide | (simp only [List.length_cons, List.length_nil, List.length_map, List.length_append, List.length_replicate] <;> omega)))
local macro_rules | `(tactic| walk_at "ro") => `(tactic| (first
  | with_reducible exact ro_I0
  | with_reducible exact ro_1018
  | with_reducible exact ro_neC
  | with_reducible exact ro_eqC
  | with_reducible exact ro_neI
  | with_reducible exact ro_eqI
  | with_reducible exact ro_neB
  | with_reducible exact ro_eqB
  | ((with_reducible apply ro_mod); (walk_at "side"))
  | ((with_reducible apply ro_div) <;> (walk_at "side"))
  | ((with_reducible apply ro_divW) <;> (walk_at "side"))
  | with_reducible exact ro_1012
  | with_reducible exact ro_1015
  | ((with_reducible apply ro_mulL) <;> (walk_at "side"))
  | ((with_reducible apply ro_mulR) <;> (walk_at "side"))
  | ((with_reducible apply ro_addC); (walk_at "side"))
  | ((with_reducible apply ro_ixC) <;> (walk_at "side"))
  | ((with_reducible apply ro_ixI) <;> (walk_at "side"))
  | ((with_reducible apply ro_ixIN) <;> (walk_at "side"))
  | ((with_reducible apply ro_ixT2) <;> (walk_at "side"))
  | ((with_reducible apply ro_ixG) <;> (walk_at "side"))
  | ((with_reducible apply ro_eq); exact rfl)
  | ((with_reducible apply ro_ne); exact rfl)
  | with_reducible exact ro_isN
  | with_reducible exact ro_notN
  | with_reducible exact ro_eqL
  | with_reducible exact ro_neL
  | with_reducible exact ro_eqU
  | ((with_reducible apply ro_cat); (walk_at "side"))
  | with_reducible exact ro_inLi
  | with_reducible exact ro_inNi
  | with_reducible exact ro_inUi
  | ((with_reducible apply ro_inL) <;> (walk_at "side"))
  | ((with_reducible apply ro_inN) <;> (walk_at "side"))
  | ((with_reducible apply ro_inU) <;> (walk_at "side"))))
local macro_rules | `(tactic| walk_at "rc") => `(tactic| (first
  | with_reducible exact rc_int
  | with_reducible exact rc_intB
  | with_reducible exact rc_max2
  | ((with_reducible apply rc_lenC); (walk_at "side"))
  | with_reducible exact rc_lenI
  | with_reducible exact rc_lenT
  | with_reducible exact rc_lenIN
  | with_reducible exact rc_lenTN
  | with_reducible exact rc_lenL
  | with_reducible exact rc_lenN
  | with_reducible exact rc_lenU
  | with_reducible exact rc_listL
  | with_reducible exact rc_listU
  | with_reducible exact rc_tupL
  | with_reducible exact rc_tupN
  | ((with_reducible apply rc_isi_int); decide +kernel)
  | ((with_reducible apply rc_isi_str); decide +kernel)
  | ((with_reducible apply rc_isi_bl); decide +kernel)
  | ((with_reducible apply rc_isi_non); decide +kernel)
  | ((with_reducible apply rc_isi_u); decide +kernel)
  | ((with_reducible apply rc_isi_l); decide +kernel)))
local macro_rules | `(tactic| walk_at "er") => `(tactic| (first
  | ((with_reducible apply er_var); (exact rfl); assumption)
  | ((with_reducible apply er_v); exact rfl)
  | with_reducible exact er_c
  | ((with_reducible apply er_pick); (walk_at "er"); (walk_at "er"); (walk_at "er"))
  | ((with_reducible apply er_op); (walk_at "er"); (walk_at "er"); (walk_at "ro"))
  | ((with_reducible apply er_cb); (walk_at "era"); (walk_at "rc"))
  | ((with_reducible apply er_lst'); (walk_at "era"); (exact rfl); (walk_at "side"))
  | ((with_reducible apply er_tup'); (walk_at "era"); (exact rfl); (walk_at "side"))
  | ((with_reducible apply er_notV); (walk_at "er"))
  | ((with_reducible apply er_andV); (walk_at "er"); (intro _; (walk_at "er")))
  | ((with_reducible apply er_orV); (walk_at "er"); (intro _; (walk_at "er")))
  | ((with_reducible apply er_ite); (walk_at "et"); (intro _; (walk_at "er")); (intro _; (walk_at "er")))))
local macro_rules | `(tactic| walk_at "era") => `(tactic| (first
  | with_reducible exact era_nil
  | ((with_reducible apply era_cons); (walk_at "er"); (walk_at "era"))))
local macro_rules | `(tactic| walk_at "et") => `(tactic| (first
  | ((with_reducible apply et_an); (walk_at "et"); (intro _; (walk_at "et")))
  | ((with_reducible apply et_orr); (walk_at "et"); (intro _; (walk_at "et")))
  | ((with_reducible apply et_nt); (walk_at "et"))
  | ((with_reducible apply et1); (walk_at "er"))
  | ((with_reducible apply et2); (walk_at "er"))))

section
variable {K : PySem.W.Frag} {C D CS : Addr}
/-! ### the classes, as the top leaves them -/
def ExK (K : PySem.W.Frag) (C CS : Addr) : Prop := ∃ (nm q : Str) (N : Addr) (bs : List Value) (sn : List Str) (sub : List Value) (ab : Bool) (col : Option Bool) (dd : Option Addr) (k0 k1 k2 k3 k5 : Option Value),
  K.lookup C = some (excClassObj nm q C N bs [.ref CS, .type "ValueError", .type "Exception", .type "BaseException", .type "object"] true sn sub ab col dd k0 k1 k2 k3 k5 "ValueError.__new__")
structure ExP (K : PySem.W.Frag) (C CS : Addr) : Prop where
  cl : ExK K C CS
  sa : PySem.W.findIn K (.ref C) "__setattr__" = some (some (.builtin "object.__setattr__"))
  ga : PySem.W.findIn K (.ref C) "__getattribute__" = some (some (.builtin "BaseException.__getattribute__"))
  gg : PySem.W.findIn K (.ref C) "__getattr__" = some none
  oc : PySem.W.findIn K (.ref C) "__class__" = some (some (.builtin "object.__class__"))
  kp : PySem.W.keepIn K (.ref C) = true
theorem exk_cls (h : ExK K C CS) : ∃ cd : ClassData, PySem.W.clsIn K C = some cd ∧ cd.mro = [.ref C, .ref CS, .type "ValueError", .type "Exception", .type "BaseException", .type "object"] ∧ cd.hasDict = true := by
  obtain ⟨nm, q, N, bs, sn, sub, ab, col, dd, k0, k1, k2, k3, k5, h⟩ := h
  refine ⟨{ name := nm, bases := bs, mro := .ref C :: [.ref CS, .type "ValueError", .type "Exception", .type "BaseException", .type "object"], ns := N, qualname := q, hasDict := true, slotNames := sn, subclasses := sub, abstract := ab, collection := col, hasDel := false }, ?_, rfl, rfl⟩
  unfold PySem.W.clsIn
  rw [h]
theorem exk_ty (h : ExK K C CS) : PySem.W.typeIn K (.ref C) = some (.type "type") := by
  obtain ⟨nm, q, N, bs, sn, sub, ab, col, dd, k0, k1, k2, k3, k5, h⟩ := h
  show (K.lookup C).map (·.cls) = _
  rw [h]
  rfl
theorem exk_mro (h : ExK K C CS) (b : Value) : PySem.W.mroIn K C b = some (([.ref C, .ref CS, .type "ValueError", .type "Exception", .type "BaseException", .type "object"] : List Value).contains b) := by
  obtain ⟨cd, h1, h2, _⟩ := exk_cls h
  unfold PySem.W.mroIn
  rw [h1, Option.bind_some, h2]
  rfl
theorem exk_isc (h : ExK K C CS) : (PySem.W.clsIn K C).isSome = true := by
  obtain ⟨cd, h1, _⟩ := exk_cls h
  rw [h1]
  rfl
theorem exk_hd (h : ExK K C CS) : PySem.W.hasDictIn K C = true := by
  obtain ⟨cd, h1, _, h3⟩ := exk_cls h
  unfold PySem.W.hasDictIn
  rw [h1]
  exact h3
theorem exk_T (h : ExK K C CS) {n : String} (hn : ([.type "ValueError", .type "Exception", .type "BaseException", .type "object"] : List Value).contains (.type n) = true) : PySem.W.mroIn K C (.type n) = some true := by
  rw [exk_mro h]
  show some ((Value.type n == Value.ref C) || ((Value.type n == Value.ref CS) || ([.type "ValueError", .type "Exception", .type "BaseException", .type "object"] : List Value).contains (.type n))) = some true
  rw [hn, Bool.or_true, Bool.or_true]
theorem exk_own (h : ExK K C CS) : PySem.W.mroIn K C (.ref C) = some true := by
  rw [exk_mro h]
  congr 1
  simp
theorem exk_base (h : ExK K C CS) : PySem.W.mroIn K C (.ref CS) = some true := by
  rw [exk_mro h]
  congr 1
  simp
theorem exk_no (h : ExK K C CS) (h1 : D ≠ C) (h2 : D ≠ CS) : PySem.W.mroIn K C (.ref D) = some false := by
  rw [exk_mro h]
  congr 1
  simp [h1, h2]
theorem exk_VE {CS : Addr} : PySem.HandSPX.refsVE [.ref CS, .type "ValueError", .type "Exception", .type "BaseException", .type "object"] = true := by rfl
theorem exp_ox (h : ExP K C CS) : OexC K C := by
  obtain ⟨nm, q, N, bs, sn, sub, ab, col, dd, k0, k1, k2, k3, k5, hc⟩ := h.cl
  exact ⟨⟨nm, q, N, bs, _, sn, sub, ab, col, dd, k0, k1, k2, k3, k5, hc, exk_VE⟩, h.sa, exk_T h.cl (by decide +kernel), exk_ty h.cl, h.kp⟩
theorem exp_xf (h : ExP K C CS) : XfC K C := ⟨h.ga, h.gg, exk_T h.cl (by decide +kernel), exk_hd h.cl⟩
theorem exp_xd (h : ExP K C CS) (hog : PySem.W.specialIn K (.builtin "object.__class__") "__get__" = some (some (.builtin "getset_descriptor.__get__"))) (hot : PySem.W.takesIn K (.builtin "object.__class__") = some true) : ExdC K C :=
  ⟨exk_isc h.cl, h.ga, h.gg, exk_T h.cl (by decide +kernel), h.oc, hog, hot, exk_T h.cl (by decide +kernel)⟩
theorem all22 {Pr : Nat → Prop} (h0 : Pr 0) (h1 : Pr 1) (h2 : Pr 2) (h3 : Pr 3) (h4 : Pr 4) (h5 : Pr 5) (h6 : Pr 6) (h7 : Pr 7) (h8 : Pr 8) (h9 : Pr 9) (h10 : Pr 10) (h11 : Pr 11) (h12 : Pr 12) (h13 : Pr 13) (h14 : Pr 14) (h15 : Pr 15) (h16 : Pr 16) (h17 : Pr 17) (h18 : Pr 18) (h19 : Pr 19) (h20 : Pr 20) (h21 : Pr 21) : ∀ w, w < 22 → Pr w
  | 0, _ => h0
  | 1, _ => h1
  | 2, _ => h2
  | 3, _ => h3
  | 4, _ => h4
  | 5, _ => h5
  | 6, _ => h6
  | 7, _ => h7
  | 8, _ => h8
  | 9, _ => h9
  | 10, _ => h10
  | 11, _ => h11
  | 12, _ => h12
  | 13, _ => h13
  | 14, _ => h14
  | 15, _ => h15
  | 16, _ => h16
  | 17, _ => h17
  | 18, _ => h18
  | 19, _ => h19
  | 20, _ => h20
  | 21, _ => h21
  | w + 22, h => by omega
def ascB : List Nat → Bool
  | a :: b :: r => Nat.blt a b && ascB (b :: r)
  | _ => true
theorem asc_lt : ∀ {l : List Nat} {i j a b : Nat}, ascB l = true → i < j → l[i]? = some a → l[j]? = some b → a < b
  | [], _, _, _, _, _, _, h, _ => by simp at h
  | [x], i, j, a, b, _, hij, h1, h2 => by
    have := (List.getElem?_eq_some_iff.mp h2).1
    simp at this
    omega
  | x :: y :: r, i, j, a, b, h, hij, h1, h2 => by
    unfold ascB at h
    rw [Bool.and_eq_true] at h
    have hxy : x < y := Nat.blt_eq.mp h.1
    match i, j, hij, h1, h2 with
    | 0, 1, _, h1, h2 =>
      cases h1
      cases h2
      exact hxy
    | 0, j + 2, _, h1, h2 =>
      cases h1
      have := asc_lt (l := y :: r) (i := 0) (j := j + 1) h.2 (by omega) rfl h2
      omega
    | i + 1, j + 1, hij, h1, h2 => exact asc_lt (l := y :: r) (i := i) (j := j) h.2 (by omega) h1 h2
theorem kit_yes2 {K : PySem.W.Frag} {C D : Addr} (hd : (PySem.W.clsIn K D).isSome = true) (ht : PySem.W.typeIn K (.ref D) = some (.type "type")) (h : PySem.W.mroIn K C (.ref D) = some true) : PySem.W.kitOne K (.ref C) (.ref D) = some true := by
  unfold PySem.W.kitOne
  split
  · rfl
  · show (if ((PySem.W.clsIn K D).isSome && PySem.W.typeIn K (.ref D) == some (.type "type")) = true then PySem.W.mroIn K C (.ref D) else none) = some true
    rw [hd, ht, if_pos (by rfl), h]
/-- the addresses, in their order -/
def adr (l : List Addr) (i : Nat) : Addr := l.getD (i + 1) 0
theorem er_all {mg : Str → Option Value} {l : List Addr} {fs : Nat → Addr} (hlen : l.length = 23) (hasc : ascB l = true) (gS : mg "StampError" = some (.ref (l.getD 0 0))) (bV : mg "ValueError" = none) (g0 : mg "BadName" = some (.ref (adr l 0))) (g1 : mg "BadStamp" = some (.ref (adr l 1))) (g2 : mg "NameTaken" = some (.ref (adr l 2))) (g3 : mg "SizesDiffer" = some (.ref (adr l 3))) (g4 : mg "UnknownName" = some (.ref (adr l 4))) (g5 : mg "BadStep" = some (.ref (adr l 5))) (g6 : mg "StocksDiffer" = some (.ref (adr l 6))) (g7 : mg "BadAtom" = some (.ref (adr l 7))) (g8 : mg "NoOrder" = some (.ref (adr l 8))) (g9 : mg "BadPrices" = some (.ref (adr l 9))) (g10 : mg "BadChances" = some (.ref (adr l 10))) (g11 : mg "BadWish" = some (.ref (adr l 11))) (g12 : mg "BadShape" = some (.ref (adr l 12))) (g13 : mg "BadSheet" = some (.ref (adr l 13))) (g14 : mg "DeskFull" = some (.ref (adr l 14))) (g15 : mg "NothingToUndo" = some (.ref (adr l 15))) (g16 : mg "BadCount" = some (.ref (adr l 16))) (g17 : mg "CannotMake" = some (.ref (adr l 17))) (g18 : mg "Mismatch" = some (.ref (adr l 18))) (g19 : mg "BadDeed" = some (.ref (adr l 19))) (g20 : mg "BadNote" = some (.ref (adr l 20))) (g21 : mg "BadClaimText" = some (.ref (adr l 21)))
    (hP : ∀ w, w < 22 → ExP K (adr l w) (l.getD 0 0)) (hog : PySem.W.specialIn K (.builtin "object.__class__") "__get__" = some (some (.builtin "getset_descriptor.__get__"))) (hot : PySem.W.takesIn K (.builtin "object.__class__") = some true)
    (iC : ∀ w, w < 22 → flT w ≠ [] → PySem.W.findIn K (.ref (adr l w)) "__init__" = some (some (.ref (fs w)))) (tI : ∀ w, w < 22 → flT w ≠ [] → PySem.W.typeIn K (.ref (fs w)) = some (.type "function")) (nr : ∀ w, w < 22 → ∀ f ∈ flT w, PySem.W.findIn K (.ref (adr l w)) f = some none)
    (e0 : ∀ w, w < 22 → flT w = [] → PySem.W.excIn K (adr l w) [.type "ValueError", .type "Exception", .type "BaseException", .type "object"] "ValueError.__new__" = true)
    (bS : PySem.W.mroIn K (l.getD 0 0) (.type "BaseException") = some true) (cS : PySem.W.isClsIn K (l.getD 0 0) = true) (tS : PySem.W.typeIn K (.ref (l.getD 0 0)) = some (.type "type")) : ErAll K mg (adr l) fs (l.getD 0 0) := by
  have at_ : ∀ i, i < 22 → l[i + 1]? = some (adr l i) := fun i hi => by
    unfold adr
    rw [List.getD_eq_getElem?_getD, List.getElem?_eq_getElem (by omega)]
    rfl
  have at0 : l[0]? = some (l.getD 0 0) := by
    rw [List.getD_eq_getElem?_getD, List.getElem?_eq_getElem (by omega)]
    rfl
  have ne : ∀ i j, i < 22 → j < 22 → i ≠ j → adr l j ≠ adr l i := fun i j hi hj h e => by
    rcases Nat.lt_or_gt_of_ne h with q | q
    · have := asc_lt hasc (show i + 1 < j + 1 by omega) (at_ i hi) (at_ j hj)
      rw [e] at this
      exact Nat.lt_irrefl _ this
    · have := asc_lt hasc (show j + 1 < i + 1 by omega) (at_ j hj) (at_ i hi)
      rw [e] at this
      exact Nat.lt_irrefl _ this
  have neS : ∀ j, j < 22 → adr l j ≠ l.getD 0 0 := fun j hj e => by
    have := asc_lt hasc (show 0 < j + 1 by omega) at0 (at_ j hj)
    rw [e] at this
    exact Nat.lt_irrefl _ this
  exact { gS := gS, bV := bV, g0 := g0, g1 := g1, g2 := g2, g3 := g3, g4 := g4, g5 := g5, g6 := g6, g7 := g7, g8 := g8, g9 := g9, g10 := g10, g11 := g11, g12 := g12, g13 := g13, g14 := g14, g15 := g15, g16 := g16, g17 := g17, g18 := g18, g19 := g19, g20 := g20, g21 := g21
          ox := fun w hw => exp_ox (hP w hw), xd := fun w hw => exp_xd (hP w hw) hog hot, xf := fun w hw => exp_xf (hP w hw), iC := iC, tI := tI, nr := nr, e0 := e0
          kit := fun i j hi hj => by
            by_cases h : i = j
            · subst h
              rw [decide_eq_true rfl]
              exact kit_own
            · rw [decide_eq_false h]
              exact kit_no (exk_own (hP i hi).cl) (exk_isc (hP j hj).cl) (exk_ty (hP j hj).cl) (exk_no (hP i hi).cl (ne i j hi hj h) (neS j hj))
          kS := fun i hi => kit_yes2 cS tS (exk_base (hP i hi).cl)
          kV := fun i hi => kit_ve (exk_T (hP i hi).cl (by decide +kernel))
          eS := fun i hi => exm_is bS cS tS (exk_base (hP i hi).cl) }
end
end Mi

set_option maxHeartbeats 4000000
namespace Mi
open PySem PySem.Spec PyProof.Rows L2 Evl
theorem at_mk {K : PySem.W.Frag} {h : Heap} {mg : Str → Option Value} {x : Str} {st : Stmt} {ps : List Str} {f : Addr} {od an : Option Addr} {sl : Array (Option Value)} {oc kV dc pm cd ct : Value} (X : K.In h) (G : h.Ns mainGlobals mg)
    (a : PySem.W.nsIn K mainGlobals x = some (some (.ref f))) (l : K.lookup f = some ⟨oc, od, .func (PySem.W.fnOf x x (defArgs st) (defBody st) (defScope st) .none kV dc pm an cd ct), sl⟩) (c : PySem.W.codeIn K cd x = true) (k : PySem.W.keepIn K (.ref f) = true)
    (b0 : ∀ (kV dc pm : Value) (an : Option Addr) (cd ct : Value) (us : List Value), us.length = ps.length → bindArgs (PySem.W.fnOf x x (defArgs st) (defBody st) (defScope st) .none kV dc pm an cd ct) ⟨us, []⟩ = pure (ps.zip us))
    (b1 : ∀ (kV dc pm : Value) (an : Option Addr) (cd ct : Value), ps.length = 1 → ∀ w1 : Value, bindArgs (PySem.W.fnOf x x (defArgs st) (defBody st) (defScope st) .none kV dc pm an cd ct) ⟨[], ps.zip [w1]⟩ = pure (ps.zip [w1]))
    (b2 : ∀ (kV dc pm : Value) (an : Option Addr) (cd ct : Value), ∀ p q, ps = [p, q] → ∀ w1 w2 : Value, bindArgs (PySem.W.fnOf x x (defArgs st) (defBody st) (defScope st) .none kV dc pm an cd ct) ⟨[], [q, p].zip [w1, w2]⟩ = pure ([p, q].zip [w2, w1])) : At K mg x st ps := by
  have F := fun_mk (st := st) l c k
  exact ⟨_, _, PySem.W.mg_of X G a, F, Binds.all (b0 _ _ _ _ _ _), fun e _ w1 => .of_eq (b1 _ _ _ _ _ _ e w1), fun p q e _ w1 w2 => .of_eq (b2 _ _ _ _ _ _ p q e w1 w2)⟩
theorem at_as_tuples {K : PySem.W.Frag} {h : Heap} {mg : Str → Option Value} {f : Addr} {od an : Option Addr} {sl : Array (Option Value)} {oc kV dc pm cd ct : Value} (X : K.In h) (G : h.Ns mainGlobals mg) (a : PySem.W.nsIn K mainGlobals "as_tuples" = some (some (.ref f))) (l : K.lookup f = some ⟨oc, od, .func (PySem.W.fnOf "as_tuples" "as_tuples" (defArgs s_as_tuples) (defBody s_as_tuples) (defScope s_as_tuples) .none kV dc pm an cd ct), sl⟩) (c : PySem.W.codeIn K cd "as_tuples" = true) (k : PySem.W.keepIn K (.ref f) = true) : At K mg "as_tuples" s_as_tuples ["value"] :=
  at_mk X G a l c k (fun _ _ _ _ _ _ us hl => match us, hl with | [_], _ => rfl) (fun _ _ _ _ _ _ _ _ => rfl) (fun _ _ _ _ _ _ p q e => by cases e)
theorem at__law_cell {K : PySem.W.Frag} {h : Heap} {mg : Str → Option Value} {f : Addr} {od an : Option Addr} {sl : Array (Option Value)} {oc kV dc pm cd ct : Value} (X : K.In h) (G : h.Ns mainGlobals mg) (a : PySem.W.nsIn K mainGlobals "_law_cell" = some (some (.ref f))) (l : K.lookup f = some ⟨oc, od, .func (PySem.W.fnOf "_law_cell" "_law_cell" (defArgs s__law_cell) (defBody s__law_cell) (defScope s__law_cell) .none kV dc pm an cd ct), sl⟩) (c : PySem.W.codeIn K cd "_law_cell" = true) (k : PySem.W.keepIn K (.ref f) = true) : At K mg "_law_cell" s__law_cell ["script", "k"] :=
  at_mk X G a l c k (fun _ _ _ _ _ _ us hl => match us, hl with | [_, _], _ => rfl) (fun _ _ _ _ _ _ e => absurd e (by decide)) (fun _ _ _ _ _ _ p q e w1 w2 => by cases e; rfl)
theorem at__law_draw {K : PySem.W.Frag} {h : Heap} {mg : Str → Option Value} {f : Addr} {od an : Option Addr} {sl : Array (Option Value)} {oc kV dc pm cd ct : Value} (X : K.In h) (G : h.Ns mainGlobals mg) (a : PySem.W.nsIn K mainGlobals "_law_draw" = some (some (.ref f))) (l : K.lookup f = some ⟨oc, od, .func (PySem.W.fnOf "_law_draw" "_law_draw" (defArgs s__law_draw) (defBody s__law_draw) (defScope s__law_draw) .none kV dc pm an cd ct), sl⟩) (c : PySem.W.codeIn K cd "_law_draw" = true) (k : PySem.W.keepIn K (.ref f) = true) : At K mg "_law_draw" s__law_draw ["script", "k", "sizes"] :=
  at_mk X G a l c k (fun _ _ _ _ _ _ us hl => match us, hl with | [_, _, _], _ => rfl) (fun _ _ _ _ _ _ e => absurd e (by decide)) (fun _ _ _ _ _ _ p q e => by cases e)
theorem at__law_name {K : PySem.W.Frag} {h : Heap} {mg : Str → Option Value} {f : Addr} {od an : Option Addr} {sl : Array (Option Value)} {oc kV dc pm cd ct : Value} (X : K.In h) (G : h.Ns mainGlobals mg) (a : PySem.W.nsIn K mainGlobals "_law_name" = some (some (.ref f))) (l : K.lookup f = some ⟨oc, od, .func (PySem.W.fnOf "_law_name" "_law_name" (defArgs s__law_name) (defBody s__law_name) (defScope s__law_name) .none kV dc pm an cd ct), sl⟩) (c : PySem.W.codeIn K cd "_law_name" = true) (k : PySem.W.keepIn K (.ref f) = true) : At K mg "_law_name" s__law_name ["spots"] :=
  at_mk X G a l c k (fun _ _ _ _ _ _ us hl => match us, hl with | [_], _ => rfl) (fun _ _ _ _ _ _ _ _ => rfl) (fun _ _ _ _ _ _ p q e => by cases e)
theorem at__law_made {K : PySem.W.Frag} {h : Heap} {mg : Str → Option Value} {f : Addr} {od an : Option Addr} {sl : Array (Option Value)} {oc kV dc pm cd ct : Value} (X : K.In h) (G : h.Ns mainGlobals mg) (a : PySem.W.nsIn K mainGlobals "_law_made" = some (some (.ref f))) (l : K.lookup f = some ⟨oc, od, .func (PySem.W.fnOf "_law_made" "_law_made" (defArgs s__law_made) (defBody s__law_made) (defScope s__law_made) .none kV dc pm an cd ct), sl⟩) (c : PySem.W.codeIn K cd "_law_made" = true) (k : PySem.W.keepIn K (.ref f) = true) : At K mg "_law_made" s__law_made ["which", "given"] :=
  at_mk X G a l c k (fun _ _ _ _ _ _ us hl => match us, hl with | [_, _], _ => rfl) (fun _ _ _ _ _ _ e => absurd e (by decide)) (fun _ _ _ _ _ _ p q e w1 w2 => by cases e; rfl)
theorem at__law_fields {K : PySem.W.Frag} {h : Heap} {mg : Str → Option Value} {f : Addr} {od an : Option Addr} {sl : Array (Option Value)} {oc kV dc pm cd ct : Value} (X : K.In h) (G : h.Ns mainGlobals mg) (a : PySem.W.nsIn K mainGlobals "_law_fields" = some (some (.ref f))) (l : K.lookup f = some ⟨oc, od, .func (PySem.W.fnOf "_law_fields" "_law_fields" (defArgs s__law_fields) (defBody s__law_fields) (defScope s__law_fields) .none kV dc pm an cd ct), sl⟩) (c : PySem.W.codeIn K cd "_law_fields" = true) (k : PySem.W.keepIn K (.ref f) = true) : At K mg "_law_fields" s__law_fields ["which", "error"] :=
  at_mk X G a l c k (fun _ _ _ _ _ _ us hl => match us, hl with | [_, _], _ => rfl) (fun _ _ _ _ _ _ e => absurd e (by decide)) (fun _ _ _ _ _ _ p q e w1 w2 => by cases e; rfl)
theorem at__law_due {K : PySem.W.Frag} {h : Heap} {mg : Str → Option Value} {f : Addr} {od an : Option Addr} {sl : Array (Option Value)} {oc kV dc pm cd ct : Value} (X : K.In h) (G : h.Ns mainGlobals mg) (a : PySem.W.nsIn K mainGlobals "_law_due" = some (some (.ref f))) (l : K.lookup f = some ⟨oc, od, .func (PySem.W.fnOf "_law_due" "_law_due" (defArgs s__law_due) (defBody s__law_due) (defScope s__law_due) .none kV dc pm an cd ct), sl⟩) (c : PySem.W.codeIn K cd "_law_due" = true) (k : PySem.W.keepIn K (.ref f) = true) : At K mg "_law_due" s__law_due ["which", "given"] :=
  at_mk X G a l c k (fun _ _ _ _ _ _ us hl => match us, hl with | [_, _], _ => rfl) (fun _ _ _ _ _ _ e => absurd e (by decide)) (fun _ _ _ _ _ _ p q e w1 w2 => by cases e; rfl)
theorem at__law_kinds {K : PySem.W.Frag} {h : Heap} {mg : Str → Option Value} {f : Addr} {od an : Option Addr} {sl : Array (Option Value)} {oc kV dc pm cd ct : Value} (X : K.In h) (G : h.Ns mainGlobals mg) (a : PySem.W.nsIn K mainGlobals "_law_kinds" = some (some (.ref f))) (l : K.lookup f = some ⟨oc, od, .func (PySem.W.fnOf "_law_kinds" "_law_kinds" (defArgs s__law_kinds) (defBody s__law_kinds) (defScope s__law_kinds) .none kV dc pm an cd ct), sl⟩) (c : PySem.W.codeIn K cd "_law_kinds" = true) (k : PySem.W.keepIn K (.ref f) = true) : At K mg "_law_kinds" s__law_kinds ["error"] :=
  at_mk X G a l c k (fun _ _ _ _ _ _ us hl => match us, hl with | [_], _ => rfl) (fun _ _ _ _ _ _ _ _ => rfl) (fun _ _ _ _ _ _ p q e => by cases e)
theorem at__law_raised {K : PySem.W.Frag} {h : Heap} {mg : Str → Option Value} {f : Addr} {od an : Option Addr} {sl : Array (Option Value)} {oc kV dc pm cd ct : Value} (X : K.In h) (G : h.Ns mainGlobals mg) (a : PySem.W.nsIn K mainGlobals "_law_raised" = some (some (.ref f))) (l : K.lookup f = some ⟨oc, od, .func (PySem.W.fnOf "_law_raised" "_law_raised" (defArgs s__law_raised) (defBody s__law_raised) (defScope s__law_raised) .none kV dc pm an cd ct), sl⟩) (c : PySem.W.codeIn K cd "_law_raised" = true) (k : PySem.W.keepIn K (.ref f) = true) : At K mg "_law_raised" s__law_raised ["which", "given"] :=
  at_mk X G a l c k (fun _ _ _ _ _ _ us hl => match us, hl with | [_, _], _ => rfl) (fun _ _ _ _ _ _ e => absurd e (by decide)) (fun _ _ _ _ _ _ p q e w1 w2 => by cases e; rfl)
theorem at__law_given {K : PySem.W.Frag} {h : Heap} {mg : Str → Option Value} {f : Addr} {od an : Option Addr} {sl : Array (Option Value)} {oc kV dc pm cd ct : Value} (X : K.In h) (G : h.Ns mainGlobals mg) (a : PySem.W.nsIn K mainGlobals "_law_given" = some (some (.ref f))) (l : K.lookup f = some ⟨oc, od, .func (PySem.W.fnOf "_law_given" "_law_given" (defArgs s__law_given) (defBody s__law_given) (defScope s__law_given) .none kV dc pm an cd ct), sl⟩) (c : PySem.W.codeIn K cd "_law_given" = true) (k : PySem.W.keepIn K (.ref f) = true) : At K mg "_law_given" s__law_given ["script", "k"] :=
  at_mk X G a l c k (fun _ _ _ _ _ _ us hl => match us, hl with | [_, _], _ => rfl) (fun _ _ _ _ _ _ e => absurd e (by decide)) (fun _ _ _ _ _ _ p q e w1 w2 => by cases e; rfl)
theorem at_law {K : PySem.W.Frag} {h : Heap} {mg : Str → Option Value} {f : Addr} {od an : Option Addr} {sl : Array (Option Value)} {oc kV dc pm cd ct : Value} (X : K.In h) (G : h.Ns mainGlobals mg) (a : PySem.W.nsIn K mainGlobals "law" = some (some (.ref f))) (l : K.lookup f = some ⟨oc, od, .func (PySem.W.fnOf "law" "law" (defArgs s_law) (defBody s_law) (defScope s_law) .none kV dc pm an cd ct), sl⟩) (c : PySem.W.codeIn K cd "law" = true) (k : PySem.W.keepIn K (.ref f) = true) : At K mg "law" s_law ["script"] :=
  at_mk X G a l c k (fun _ _ _ _ _ _ us hl => match us, hl with | [_], _ => rfl) (fun _ _ _ _ _ _ _ _ => rfl) (fun _ _ _ _ _ _ p q e => by cases e)
end Mi

set_option maxHeartbeats 4000000
namespace Mi
open PySem PySem.Spec PyProof.Rows L2 Evl
theorem fn_all {P : Program} {w : World} {K : PySem.W.Frag} {mg : Str → Option Value} {base : Heap} {f0  : Addr} {fd0  : FuncData} {Cs fs : Nat → Addr} {CS : Addr} {fds : Nat → FuncData}  (T : Txt K mg)
    (TE : ErAll K mg Cs fs CS) (X0 : Fun K "__init__" "BadName.__init__" s_BadName___init__ (fs 0) (fds 0)) (bX0 : Binds K (fds 0) ["self", "index"] []) (X1 : Fun K "__init__" "BadStamp.__init__" s_BadStamp___init__ (fs 1) (fds 1)) (bX1 : Binds K (fds 1) ["self", "index"] []) (X2 : Fun K "__init__" "NameTaken.__init__" s_NameTaken___init__ (fs 2) (fds 2)) (bX2 : Binds K (fds 2) ["self", "name"] []) (X3 : Fun K "__init__" "SizesDiffer.__init__" s_SizesDiffer___init__ (fs 3) (fds 3)) (bX3 : Binds K (fds 3) ["self", "one", "two"] []) (X4 : Fun K "__init__" "UnknownName.__init__" s_UnknownName___init__ (fs 4) (fds 4)) (bX4 : Binds K (fds 4) ["self", "name"] []) (X5 : Fun K "__init__" "BadStep.__init__" s_BadStep___init__ (fs 5) (fds 5)) (bX5 : Binds K (fds 5) ["self", "index"] []) (X7 : Fun K "__init__" "BadAtom.__init__" s_BadAtom___init__ (fs 7) (fds 7)) (bX7 : Binds K (fds 7) ["self", "atom"] []) (X8 : Fun K "__init__" "NoOrder.__init__" s_NoOrder___init__ (fs 8) (fds 8)) (bX8 : Binds K (fds 8) ["self", "row"] []) (X11 : Fun K "__init__" "BadWish.__init__" s_BadWish___init__ (fs 11) (fds 11)) (bX11 : Binds K (fds 11) ["self", "index"] []) (X12 : Fun K "__init__" "BadShape.__init__" s_BadShape___init__ (fs 12) (fds 12)) (bX12 : Binds K (fds 12) ["self", "index"] []) (X13 : Fun K "__init__" "BadSheet.__init__" s_BadSheet___init__ (fs 13) (fds 13)) (bX13 : Binds K (fds 13) ["self", "sheet"] []) (X16 : Fun K "__init__" "BadCount.__init__" s_BadCount___init__ (fs 16) (fds 16)) (bX16 : Binds K (fds 16) ["self", "count"] []) (X17 : Fun K "__init__" "CannotMake.__init__" s_CannotMake___init__ (fs 17) (fds 17)) (bX17 : Binds K (fds 17) ["self", "cells"] []) (X18 : Fun K "__init__" "Mismatch.__init__" s_Mismatch___init__ (fs 18) (fds 18)) (bX18 : Binds K (fds 18) ["self", "cell"] []) (X19 : Fun K "__init__" "BadDeed.__init__" s_BadDeed___init__ (fs 19) (fds 19)) (bX19 : Binds K (fds 19) ["self", "deed"] []) (X20 : Fun K "__init__" "BadNote.__init__" s_BadNote___init__ (fs 20) (fds 20)) (bX20 : Binds K (fds 20) ["self", "line"] [])
    (F : Fun K "law" "law" s_law f0 fd0)
    (a_as_tuples : At K mg "as_tuples" s_as_tuples ["value"])
    (a__law_cell : At K mg "_law_cell" s__law_cell ["script", "k"])
    (a__law_draw : At K mg "_law_draw" s__law_draw ["script", "k", "sizes"])
    (a__law_name : At K mg "_law_name" s__law_name ["spots"])
    (a__law_made : At K mg "_law_made" s__law_made ["which", "given"])
    (a__law_fields : At K mg "_law_fields" s__law_fields ["which", "error"])
    (a__law_due : At K mg "_law_due" s__law_due ["which", "given"])
    (a__law_kinds : At K mg "_law_kinds" s__law_kinds ["error"])
    (a__law_raised : At K mg "_law_raised" s__law_raised ["which", "given"])
    (a__law_given : At K mg "_law_given" s__law_given ["script", "k"])
    : FnOk P w K mg base CX0 9 f0 fd0 ["script"] (spLaw K) := by
  have CT := has_as_tuples (P := P) (w := w) (base := base) T a_as_tuples 5
  have F_E : InitAll P w K mg base Cs fs fds := all22 (Pr := fun i => flT i ≠ [] → FnOk P w K mg base CX0 6 (fs i) (fds i) ("self" :: flT i) (spI K Cs i) ∧ Binds K (fds i) ("self" :: flT i) []) (fun _ => ⟨ok_i0 T TE X0, bX0⟩) (fun _ => ⟨ok_i1 T TE X1, bX1⟩) (fun _ => ⟨ok_i2 T TE X2, bX2⟩) (fun _ => ⟨ok_i3 T TE X3, bX3⟩) (fun _ => ⟨ok_i4 T TE X4, bX4⟩) (fun _ => ⟨ok_i5 T TE X5, bX5⟩) (fun h => absurd rfl h) (fun _ => ⟨ok_i7 T TE X7 CT, bX7⟩) (fun _ => ⟨ok_i8 T TE X8 CT, bX8⟩) (fun h => absurd rfl h) (fun h => absurd rfl h) (fun _ => ⟨ok_i11 T TE X11, bX11⟩) (fun _ => ⟨ok_i12 T TE X12, bX12⟩) (fun _ => ⟨ok_i13 T TE X13, bX13⟩) (fun h => absurd rfl h) (fun h => absurd rfl h) (fun _ => ⟨ok_i16 T TE X16, bX16⟩) (fun _ => ⟨ok_i17 T TE X17 CT, bX17⟩) (fun _ => ⟨ok_i18 T TE X18, bX18⟩) (fun _ => ⟨ok_i19 T TE X19 CT, bX19⟩) (fun _ => ⟨ok_i20 T TE X20, bX20⟩) (fun h => absurd rfl h)
  have HK := fun a oe cls d hz hf => hot__law_kinds (P := P) (w := w) (base := base) T TE a__law_kinds a oe cls d hz hf
  have C_as_tuples := has_as_tuples (P := P) (w := w) (base := base) T a_as_tuples 5
  have C__law_cell := has__law_cell (P := P) (w := w) (base := base) T a__law_cell
  have C__law_draw := has__law_draw (P := P) (w := w) (base := base) T a__law_draw C__law_cell
  have C__law_name := has__law_name (P := P) (w := w) (base := base) T a__law_name
  have C__law_made := has__law_made (P := P) (w := w) (base := base) T TE F_E a__law_made
  have C__law_fields := has__law_fields (P := P) (w := w) (base := base) T TE a__law_fields
  have C__law_due := has__law_due (P := P) (w := w) (base := base) T a__law_due
  have C__law_kinds := has__law_kinds (P := P) (w := w) (base := base) T TE a__law_kinds
  have C__law_raised := has__law_raised (P := P) (w := w) (base := base) T TE F_E a__law_raised HK
  have C__law_given := has__law_given (P := P) (w := w) (base := base) T a__law_given C__law_cell C__law_draw C__law_name
  exact fn_law T TE F C__law_given C__law_made C__law_kinds C__law_fields C__law_due C__law_raised
theorem no_str {K : PySem.W.Frag} {C : Addr} (h : PySem.W.mroIn K C (.type "str") = some false) : PySem.W.kitOne K (.ref C) (.type "str") = some false := by
  unfold PySem.W.kitOne
  have e : (Value.ref C == Value.type "str") = false := rfl
  rw [e, if_neg Bool.false_ne_true]
  show (if PySem.W.kitMeta "str" = true then PySem.W.subIn K (.ref C) (.type "str") else none) = _
  rw [if_pos (by decide)]
  unfold PySem.W.subIn
  exact h

theorem all_mk {l : PySem.W.OpenLaw} {w : World} {K : PySem.W.Frag} {h : Heap} {mg : Str → Option Value} {fa  : Addr}  (X : K.In h) (G : h.Ns mainGlobals mg) (hfa : mg "law" = some (.ref fa))
    {CS : Addr} {C0 : Addr} {nm0 q0 : Str} {N0 : Addr} {bs0 : List Value} {sn0 : List Str} {sub0 : List Value} {ab0 : Bool} {col0 : Option Bool} {dd0 : Option Addr} {p00 p10 p20 p30 p50 : Option Value} {C1 : Addr} {nm1 q1 : Str} {N1 : Addr} {bs1 : List Value} {sn1 : List Str} {sub1 : List Value} {ab1 : Bool} {col1 : Option Bool} {dd1 : Option Addr} {p01 p11 p21 p31 p51 : Option Value} {C2 : Addr} {nm2 q2 : Str} {N2 : Addr} {bs2 : List Value} {sn2 : List Str} {sub2 : List Value} {ab2 : Bool} {col2 : Option Bool} {dd2 : Option Addr} {p02 p12 p22 p32 p52 : Option Value} {C3 : Addr} {nm3 q3 : Str} {N3 : Addr} {bs3 : List Value} {sn3 : List Str} {sub3 : List Value} {ab3 : Bool} {col3 : Option Bool} {dd3 : Option Addr} {p03 p13 p23 p33 p53 : Option Value} {C4 : Addr} {nm4 q4 : Str} {N4 : Addr} {bs4 : List Value} {sn4 : List Str} {sub4 : List Value} {ab4 : Bool} {col4 : Option Bool} {dd4 : Option Addr} {p04 p14 p24 p34 p54 : Option Value} {C5 : Addr} {nm5 q5 : Str} {N5 : Addr} {bs5 : List Value} {sn5 : List Str} {sub5 : List Value} {ab5 : Bool} {col5 : Option Bool} {dd5 : Option Addr} {p05 p15 p25 p35 p55 : Option Value} {C6 : Addr} {nm6 q6 : Str} {N6 : Addr} {bs6 : List Value} {sn6 : List Str} {sub6 : List Value} {ab6 : Bool} {col6 : Option Bool} {dd6 : Option Addr} {p06 p16 p26 p36 p56 : Option Value} {C7 : Addr} {nm7 q7 : Str} {N7 : Addr} {bs7 : List Value} {sn7 : List Str} {sub7 : List Value} {ab7 : Bool} {col7 : Option Bool} {dd7 : Option Addr} {p07 p17 p27 p37 p57 : Option Value} {C8 : Addr} {nm8 q8 : Str} {N8 : Addr} {bs8 : List Value} {sn8 : List Str} {sub8 : List Value} {ab8 : Bool} {col8 : Option Bool} {dd8 : Option Addr} {p08 p18 p28 p38 p58 : Option Value} {C9 : Addr} {nm9 q9 : Str} {N9 : Addr} {bs9 : List Value} {sn9 : List Str} {sub9 : List Value} {ab9 : Bool} {col9 : Option Bool} {dd9 : Option Addr} {p09 p19 p29 p39 p59 : Option Value} {C10 : Addr} {nm10 q10 : Str} {N10 : Addr} {bs10 : List Value} {sn10 : List Str} {sub10 : List Value} {ab10 : Bool} {col10 : Option Bool} {dd10 : Option Addr} {p010 p110 p210 p310 p510 : Option Value} {C11 : Addr} {nm11 q11 : Str} {N11 : Addr} {bs11 : List Value} {sn11 : List Str} {sub11 : List Value} {ab11 : Bool} {col11 : Option Bool} {dd11 : Option Addr} {p011 p111 p211 p311 p511 : Option Value} {C12 : Addr} {nm12 q12 : Str} {N12 : Addr} {bs12 : List Value} {sn12 : List Str} {sub12 : List Value} {ab12 : Bool} {col12 : Option Bool} {dd12 : Option Addr} {p012 p112 p212 p312 p512 : Option Value} {C13 : Addr} {nm13 q13 : Str} {N13 : Addr} {bs13 : List Value} {sn13 : List Str} {sub13 : List Value} {ab13 : Bool} {col13 : Option Bool} {dd13 : Option Addr} {p013 p113 p213 p313 p513 : Option Value} {C14 : Addr} {nm14 q14 : Str} {N14 : Addr} {bs14 : List Value} {sn14 : List Str} {sub14 : List Value} {ab14 : Bool} {col14 : Option Bool} {dd14 : Option Addr} {p014 p114 p214 p314 p514 : Option Value} {C15 : Addr} {nm15 q15 : Str} {N15 : Addr} {bs15 : List Value} {sn15 : List Str} {sub15 : List Value} {ab15 : Bool} {col15 : Option Bool} {dd15 : Option Addr} {p015 p115 p215 p315 p515 : Option Value} {C16 : Addr} {nm16 q16 : Str} {N16 : Addr} {bs16 : List Value} {sn16 : List Str} {sub16 : List Value} {ab16 : Bool} {col16 : Option Bool} {dd16 : Option Addr} {p016 p116 p216 p316 p516 : Option Value} {C17 : Addr} {nm17 q17 : Str} {N17 : Addr} {bs17 : List Value} {sn17 : List Str} {sub17 : List Value} {ab17 : Bool} {col17 : Option Bool} {dd17 : Option Addr} {p017 p117 p217 p317 p517 : Option Value} {C18 : Addr} {nm18 q18 : Str} {N18 : Addr} {bs18 : List Value} {sn18 : List Str} {sub18 : List Value} {ab18 : Bool} {col18 : Option Bool} {dd18 : Option Addr} {p018 p118 p218 p318 p518 : Option Value} {C19 : Addr} {nm19 q19 : Str} {N19 : Addr} {bs19 : List Value} {sn19 : List Str} {sub19 : List Value} {ab19 : Bool} {col19 : Option Bool} {dd19 : Option Addr} {p019 p119 p219 p319 p519 : Option Value} {C20 : Addr} {nm20 q20 : Str} {N20 : Addr} {bs20 : List Value} {sn20 : List Str} {sub20 : List Value} {ab20 : Bool} {col20 : Option Bool} {dd20 : Option Addr} {p020 p120 p220 p320 p520 : Option Value} {C21 : Addr} {nm21 q21 : Str} {N21 : Addr} {bs21 : List Value} {sn21 : List Str} {sub21 : List Value} {ab21 : Bool} {col21 : Option Bool} {dd21 : Option Addr} {p021 p121 p221 p321 p521 : Option Value} {y0 : Addr} {odX0 anX0 : Option Addr} {slX0 : Array (Option Value)} {ocX0 kVX0 dcX0 pmX0 cdX0 ctX0 : Value} {y1 : Addr} {odX1 anX1 : Option Addr} {slX1 : Array (Option Value)} {ocX1 kVX1 dcX1 pmX1 cdX1 ctX1 : Value} {y2 : Addr} {odX2 anX2 : Option Addr} {slX2 : Array (Option Value)} {ocX2 kVX2 dcX2 pmX2 cdX2 ctX2 : Value} {y3 : Addr} {odX3 anX3 : Option Addr} {slX3 : Array (Option Value)} {ocX3 kVX3 dcX3 pmX3 cdX3 ctX3 : Value} {y4 : Addr} {odX4 anX4 : Option Addr} {slX4 : Array (Option Value)} {ocX4 kVX4 dcX4 pmX4 cdX4 ctX4 : Value} {y5 : Addr} {odX5 anX5 : Option Addr} {slX5 : Array (Option Value)} {ocX5 kVX5 dcX5 pmX5 cdX5 ctX5 : Value} {y7 : Addr} {odX7 anX7 : Option Addr} {slX7 : Array (Option Value)} {ocX7 kVX7 dcX7 pmX7 cdX7 ctX7 : Value} {y8 : Addr} {odX8 anX8 : Option Addr} {slX8 : Array (Option Value)} {ocX8 kVX8 dcX8 pmX8 cdX8 ctX8 : Value} {y11 : Addr} {odX11 anX11 : Option Addr} {slX11 : Array (Option Value)} {ocX11 kVX11 dcX11 pmX11 cdX11 ctX11 : Value} {y12 : Addr} {odX12 anX12 : Option Addr} {slX12 : Array (Option Value)} {ocX12 kVX12 dcX12 pmX12 cdX12 ctX12 : Value} {y13 : Addr} {odX13 anX13 : Option Addr} {slX13 : Array (Option Value)} {ocX13 kVX13 dcX13 pmX13 cdX13 ctX13 : Value} {y16 : Addr} {odX16 anX16 : Option Addr} {slX16 : Array (Option Value)} {ocX16 kVX16 dcX16 pmX16 cdX16 ctX16 : Value} {y17 : Addr} {odX17 anX17 : Option Addr} {slX17 : Array (Option Value)} {ocX17 kVX17 dcX17 pmX17 cdX17 ctX17 : Value} {y18 : Addr} {odX18 anX18 : Option Addr} {slX18 : Array (Option Value)} {ocX18 kVX18 dcX18 pmX18 cdX18 ctX18 : Value} {y19 : Addr} {odX19 anX19 : Option Addr} {slX19 : Array (Option Value)} {ocX19 kVX19 dcX19 pmX19 cdX19 ctX19 : Value} {y20 : Addr} {odX20 anX20 : Option Addr} {slX20 : Array (Option Value)} {ocX20 kVX20 dcX20 pmX20 cdX20 ctX20 : Value}
    {f0 : Addr} {od0 an0 : Option Addr} {sl0 : Array (Option Value)} {oc0 kV0 dc0 pm0 cd0 ct0 : Value}
    {f1 : Addr} {od1 an1 : Option Addr} {sl1 : Array (Option Value)} {oc1 kV1 dc1 pm1 cd1 ct1 : Value}
    {f2 : Addr} {od2 an2 : Option Addr} {sl2 : Array (Option Value)} {oc2 kV2 dc2 pm2 cd2 ct2 : Value}
    {f3 : Addr} {od3 an3 : Option Addr} {sl3 : Array (Option Value)} {oc3 kV3 dc3 pm3 cd3 ct3 : Value}
    {f4 : Addr} {od4 an4 : Option Addr} {sl4 : Array (Option Value)} {oc4 kV4 dc4 pm4 cd4 ct4 : Value}
    {f5 : Addr} {od5 an5 : Option Addr} {sl5 : Array (Option Value)} {oc5 kV5 dc5 pm5 cd5 ct5 : Value}
    {f6 : Addr} {od6 an6 : Option Addr} {sl6 : Array (Option Value)} {oc6 kV6 dc6 pm6 cd6 ct6 : Value}
    {f7 : Addr} {od7 an7 : Option Addr} {sl7 : Array (Option Value)} {oc7 kV7 dc7 pm7 cd7 ct7 : Value}
    {f8 : Addr} {od8 an8 : Option Addr} {sl8 : Array (Option Value)} {oc8 kV8 dc8 pm8 cd8 ct8 : Value}
    {f9 : Addr} {od9 an9 : Option Addr} {sl9 : Array (Option Value)} {oc9 kV9 dc9 pm9 cd9 ct9 : Value}
    {f10 : Addr} {od10 an10 : Option Addr} {sl10 : Array (Option Value)} {oc10 kV10 dc10 pm10 cd10 ct10 : Value}
    (a0 : PySem.W.nsIn K mainGlobals "as_tuples" = some (some (.ref f0))) (l0 : K.lookup f0 = some ⟨oc0, od0, .func (PySem.W.fnOf "as_tuples" "as_tuples" (defArgs s_as_tuples) (defBody s_as_tuples) (defScope s_as_tuples) .none kV0 dc0 pm0 an0 cd0 ct0), sl0⟩) (c0 : PySem.W.codeIn K cd0 "as_tuples" = true) (k0 : PySem.W.keepIn K (.ref f0) = true)
    (a1 : PySem.W.nsIn K mainGlobals "_law_cell" = some (some (.ref f1))) (l1 : K.lookup f1 = some ⟨oc1, od1, .func (PySem.W.fnOf "_law_cell" "_law_cell" (defArgs s__law_cell) (defBody s__law_cell) (defScope s__law_cell) .none kV1 dc1 pm1 an1 cd1 ct1), sl1⟩) (c1 : PySem.W.codeIn K cd1 "_law_cell" = true) (k1 : PySem.W.keepIn K (.ref f1) = true)
    (a2 : PySem.W.nsIn K mainGlobals "_law_draw" = some (some (.ref f2))) (l2 : K.lookup f2 = some ⟨oc2, od2, .func (PySem.W.fnOf "_law_draw" "_law_draw" (defArgs s__law_draw) (defBody s__law_draw) (defScope s__law_draw) .none kV2 dc2 pm2 an2 cd2 ct2), sl2⟩) (c2 : PySem.W.codeIn K cd2 "_law_draw" = true) (k2 : PySem.W.keepIn K (.ref f2) = true)
    (a3 : PySem.W.nsIn K mainGlobals "_law_name" = some (some (.ref f3))) (l3 : K.lookup f3 = some ⟨oc3, od3, .func (PySem.W.fnOf "_law_name" "_law_name" (defArgs s__law_name) (defBody s__law_name) (defScope s__law_name) .none kV3 dc3 pm3 an3 cd3 ct3), sl3⟩) (c3 : PySem.W.codeIn K cd3 "_law_name" = true) (k3 : PySem.W.keepIn K (.ref f3) = true)
    (a4 : PySem.W.nsIn K mainGlobals "_law_made" = some (some (.ref f4))) (l4 : K.lookup f4 = some ⟨oc4, od4, .func (PySem.W.fnOf "_law_made" "_law_made" (defArgs s__law_made) (defBody s__law_made) (defScope s__law_made) .none kV4 dc4 pm4 an4 cd4 ct4), sl4⟩) (c4 : PySem.W.codeIn K cd4 "_law_made" = true) (k4 : PySem.W.keepIn K (.ref f4) = true)
    (a5 : PySem.W.nsIn K mainGlobals "_law_fields" = some (some (.ref f5))) (l5 : K.lookup f5 = some ⟨oc5, od5, .func (PySem.W.fnOf "_law_fields" "_law_fields" (defArgs s__law_fields) (defBody s__law_fields) (defScope s__law_fields) .none kV5 dc5 pm5 an5 cd5 ct5), sl5⟩) (c5 : PySem.W.codeIn K cd5 "_law_fields" = true) (k5 : PySem.W.keepIn K (.ref f5) = true)
    (a6 : PySem.W.nsIn K mainGlobals "_law_due" = some (some (.ref f6))) (l6 : K.lookup f6 = some ⟨oc6, od6, .func (PySem.W.fnOf "_law_due" "_law_due" (defArgs s__law_due) (defBody s__law_due) (defScope s__law_due) .none kV6 dc6 pm6 an6 cd6 ct6), sl6⟩) (c6 : PySem.W.codeIn K cd6 "_law_due" = true) (k6 : PySem.W.keepIn K (.ref f6) = true)
    (a7 : PySem.W.nsIn K mainGlobals "_law_kinds" = some (some (.ref f7))) (l7 : K.lookup f7 = some ⟨oc7, od7, .func (PySem.W.fnOf "_law_kinds" "_law_kinds" (defArgs s__law_kinds) (defBody s__law_kinds) (defScope s__law_kinds) .none kV7 dc7 pm7 an7 cd7 ct7), sl7⟩) (c7 : PySem.W.codeIn K cd7 "_law_kinds" = true) (k7 : PySem.W.keepIn K (.ref f7) = true)
    (a8 : PySem.W.nsIn K mainGlobals "_law_raised" = some (some (.ref f8))) (l8 : K.lookup f8 = some ⟨oc8, od8, .func (PySem.W.fnOf "_law_raised" "_law_raised" (defArgs s__law_raised) (defBody s__law_raised) (defScope s__law_raised) .none kV8 dc8 pm8 an8 cd8 ct8), sl8⟩) (c8 : PySem.W.codeIn K cd8 "_law_raised" = true) (k8 : PySem.W.keepIn K (.ref f8) = true)
    (a9 : PySem.W.nsIn K mainGlobals "_law_given" = some (some (.ref f9))) (l9 : K.lookup f9 = some ⟨oc9, od9, .func (PySem.W.fnOf "_law_given" "_law_given" (defArgs s__law_given) (defBody s__law_given) (defScope s__law_given) .none kV9 dc9 pm9 an9 cd9 ct9), sl9⟩) (c9 : PySem.W.codeIn K cd9 "_law_given" = true) (k9 : PySem.W.keepIn K (.ref f9) = true)
    (a10 : PySem.W.nsIn K mainGlobals "law" = some (some (.ref f10))) (l10 : K.lookup f10 = some ⟨oc10, od10, .func (PySem.W.fnOf "law" "law" (defArgs s_law) (defBody s_law) (defScope s_law) .none kV10 dc10 pm10 an10 cd10 ct10), sl10⟩) (c10 : PySem.W.codeIn K cd10 "law" = true) (k10 : PySem.W.keepIn K (.ref f10) = true)
    (xaS : PySem.W.nsIn K mainGlobals "StampError" = some (some (.ref CS))) (x0a : PySem.W.nsIn K mainGlobals "BadName" = some (some (.ref C0))) (x0cl : K.lookup C0 = some (excClassObj nm0 q0 C0 N0 bs0 [.ref CS, .type "ValueError", .type "Exception", .type "BaseException", .type "object"] true sn0 sub0 ab0 col0 dd0 p00 p10 p20 p30 p50 "ValueError.__new__")) (x0sa : PySem.W.findIn K (.ref C0) "__setattr__" = some (some (.builtin "object.__setattr__"))) (x0ga : PySem.W.findIn K (.ref C0) "__getattribute__" = some (some (.builtin "BaseException.__getattribute__"))) (x0gg : PySem.W.findIn K (.ref C0) "__getattr__" = some none) (x0oc : PySem.W.findIn K (.ref C0) "__class__" = some (some (.builtin "object.__class__"))) (x0kp : PySem.W.keepIn K (.ref C0) = true) (x0I : PySem.W.findIn K (.ref C0) "__init__" = some (some (.ref y0))) (x0It : PySem.W.typeIn K (.ref y0) = some (.type "function")) (x0Il : K.lookup y0 = some ⟨ocX0, odX0, .func (PySem.W.fnOf "__init__" "BadName.__init__" (defArgs s_BadName___init__) (defBody s_BadName___init__) (defScope s_BadName___init__) .none kVX0 dcX0 pmX0 anX0 cdX0 ctX0), slX0⟩) (x0Ic : PySem.W.codeIn K cdX0 "BadName.__init__" = true) (x0Ik : PySem.W.keepIn K (.ref y0) = true) (x0nr0 : PySem.W.findIn K (.ref C0) "index" = some none) (x1a : PySem.W.nsIn K mainGlobals "BadStamp" = some (some (.ref C1))) (x1cl : K.lookup C1 = some (excClassObj nm1 q1 C1 N1 bs1 [.ref CS, .type "ValueError", .type "Exception", .type "BaseException", .type "object"] true sn1 sub1 ab1 col1 dd1 p01 p11 p21 p31 p51 "ValueError.__new__")) (x1sa : PySem.W.findIn K (.ref C1) "__setattr__" = some (some (.builtin "object.__setattr__"))) (x1ga : PySem.W.findIn K (.ref C1) "__getattribute__" = some (some (.builtin "BaseException.__getattribute__"))) (x1gg : PySem.W.findIn K (.ref C1) "__getattr__" = some none) (x1oc : PySem.W.findIn K (.ref C1) "__class__" = some (some (.builtin "object.__class__"))) (x1kp : PySem.W.keepIn K (.ref C1) = true) (x1I : PySem.W.findIn K (.ref C1) "__init__" = some (some (.ref y1))) (x1It : PySem.W.typeIn K (.ref y1) = some (.type "function")) (x1Il : K.lookup y1 = some ⟨ocX1, odX1, .func (PySem.W.fnOf "__init__" "BadStamp.__init__" (defArgs s_BadStamp___init__) (defBody s_BadStamp___init__) (defScope s_BadStamp___init__) .none kVX1 dcX1 pmX1 anX1 cdX1 ctX1), slX1⟩) (x1Ic : PySem.W.codeIn K cdX1 "BadStamp.__init__" = true) (x1Ik : PySem.W.keepIn K (.ref y1) = true) (x1nr0 : PySem.W.findIn K (.ref C1) "index" = some none) (x2a : PySem.W.nsIn K mainGlobals "NameTaken" = some (some (.ref C2))) (x2cl : K.lookup C2 = some (excClassObj nm2 q2 C2 N2 bs2 [.ref CS, .type "ValueError", .type "Exception", .type "BaseException", .type "object"] true sn2 sub2 ab2 col2 dd2 p02 p12 p22 p32 p52 "ValueError.__new__")) (x2sa : PySem.W.findIn K (.ref C2) "__setattr__" = some (some (.builtin "object.__setattr__"))) (x2ga : PySem.W.findIn K (.ref C2) "__getattribute__" = some (some (.builtin "BaseException.__getattribute__"))) (x2gg : PySem.W.findIn K (.ref C2) "__getattr__" = some none) (x2oc : PySem.W.findIn K (.ref C2) "__class__" = some (some (.builtin "object.__class__"))) (x2kp : PySem.W.keepIn K (.ref C2) = true) (x2I : PySem.W.findIn K (.ref C2) "__init__" = some (some (.ref y2))) (x2It : PySem.W.typeIn K (.ref y2) = some (.type "function")) (x2Il : K.lookup y2 = some ⟨ocX2, odX2, .func (PySem.W.fnOf "__init__" "NameTaken.__init__" (defArgs s_NameTaken___init__) (defBody s_NameTaken___init__) (defScope s_NameTaken___init__) .none kVX2 dcX2 pmX2 anX2 cdX2 ctX2), slX2⟩) (x2Ic : PySem.W.codeIn K cdX2 "NameTaken.__init__" = true) (x2Ik : PySem.W.keepIn K (.ref y2) = true) (x2nr0 : PySem.W.findIn K (.ref C2) "name" = some none) (x3a : PySem.W.nsIn K mainGlobals "SizesDiffer" = some (some (.ref C3))) (x3cl : K.lookup C3 = some (excClassObj nm3 q3 C3 N3 bs3 [.ref CS, .type "ValueError", .type "Exception", .type "BaseException", .type "object"] true sn3 sub3 ab3 col3 dd3 p03 p13 p23 p33 p53 "ValueError.__new__")) (x3sa : PySem.W.findIn K (.ref C3) "__setattr__" = some (some (.builtin "object.__setattr__"))) (x3ga : PySem.W.findIn K (.ref C3) "__getattribute__" = some (some (.builtin "BaseException.__getattribute__"))) (x3gg : PySem.W.findIn K (.ref C3) "__getattr__" = some none) (x3oc : PySem.W.findIn K (.ref C3) "__class__" = some (some (.builtin "object.__class__"))) (x3kp : PySem.W.keepIn K (.ref C3) = true) (x3I : PySem.W.findIn K (.ref C3) "__init__" = some (some (.ref y3))) (x3It : PySem.W.typeIn K (.ref y3) = some (.type "function")) (x3Il : K.lookup y3 = some ⟨ocX3, odX3, .func (PySem.W.fnOf "__init__" "SizesDiffer.__init__" (defArgs s_SizesDiffer___init__) (defBody s_SizesDiffer___init__) (defScope s_SizesDiffer___init__) .none kVX3 dcX3 pmX3 anX3 cdX3 ctX3), slX3⟩) (x3Ic : PySem.W.codeIn K cdX3 "SizesDiffer.__init__" = true) (x3Ik : PySem.W.keepIn K (.ref y3) = true) (x3nr0 : PySem.W.findIn K (.ref C3) "one" = some none) (x3nr1 : PySem.W.findIn K (.ref C3) "two" = some none) (x4a : PySem.W.nsIn K mainGlobals "UnknownName" = some (some (.ref C4))) (x4cl : K.lookup C4 = some (excClassObj nm4 q4 C4 N4 bs4 [.ref CS, .type "ValueError", .type "Exception", .type "BaseException", .type "object"] true sn4 sub4 ab4 col4 dd4 p04 p14 p24 p34 p54 "ValueError.__new__")) (x4sa : PySem.W.findIn K (.ref C4) "__setattr__" = some (some (.builtin "object.__setattr__"))) (x4ga : PySem.W.findIn K (.ref C4) "__getattribute__" = some (some (.builtin "BaseException.__getattribute__"))) (x4gg : PySem.W.findIn K (.ref C4) "__getattr__" = some none) (x4oc : PySem.W.findIn K (.ref C4) "__class__" = some (some (.builtin "object.__class__"))) (x4kp : PySem.W.keepIn K (.ref C4) = true) (x4I : PySem.W.findIn K (.ref C4) "__init__" = some (some (.ref y4))) (x4It : PySem.W.typeIn K (.ref y4) = some (.type "function")) (x4Il : K.lookup y4 = some ⟨ocX4, odX4, .func (PySem.W.fnOf "__init__" "UnknownName.__init__" (defArgs s_UnknownName___init__) (defBody s_UnknownName___init__) (defScope s_UnknownName___init__) .none kVX4 dcX4 pmX4 anX4 cdX4 ctX4), slX4⟩) (x4Ic : PySem.W.codeIn K cdX4 "UnknownName.__init__" = true) (x4Ik : PySem.W.keepIn K (.ref y4) = true) (x4nr0 : PySem.W.findIn K (.ref C4) "name" = some none) (x5a : PySem.W.nsIn K mainGlobals "BadStep" = some (some (.ref C5))) (x5cl : K.lookup C5 = some (excClassObj nm5 q5 C5 N5 bs5 [.ref CS, .type "ValueError", .type "Exception", .type "BaseException", .type "object"] true sn5 sub5 ab5 col5 dd5 p05 p15 p25 p35 p55 "ValueError.__new__")) (x5sa : PySem.W.findIn K (.ref C5) "__setattr__" = some (some (.builtin "object.__setattr__"))) (x5ga : PySem.W.findIn K (.ref C5) "__getattribute__" = some (some (.builtin "BaseException.__getattribute__"))) (x5gg : PySem.W.findIn K (.ref C5) "__getattr__" = some none) (x5oc : PySem.W.findIn K (.ref C5) "__class__" = some (some (.builtin "object.__class__"))) (x5kp : PySem.W.keepIn K (.ref C5) = true) (x5I : PySem.W.findIn K (.ref C5) "__init__" = some (some (.ref y5))) (x5It : PySem.W.typeIn K (.ref y5) = some (.type "function")) (x5Il : K.lookup y5 = some ⟨ocX5, odX5, .func (PySem.W.fnOf "__init__" "BadStep.__init__" (defArgs s_BadStep___init__) (defBody s_BadStep___init__) (defScope s_BadStep___init__) .none kVX5 dcX5 pmX5 anX5 cdX5 ctX5), slX5⟩) (x5Ic : PySem.W.codeIn K cdX5 "BadStep.__init__" = true) (x5Ik : PySem.W.keepIn K (.ref y5) = true) (x5nr0 : PySem.W.findIn K (.ref C5) "index" = some none) (x6a : PySem.W.nsIn K mainGlobals "StocksDiffer" = some (some (.ref C6))) (x6cl : K.lookup C6 = some (excClassObj nm6 q6 C6 N6 bs6 [.ref CS, .type "ValueError", .type "Exception", .type "BaseException", .type "object"] true sn6 sub6 ab6 col6 dd6 p06 p16 p26 p36 p56 "ValueError.__new__")) (x6sa : PySem.W.findIn K (.ref C6) "__setattr__" = some (some (.builtin "object.__setattr__"))) (x6ga : PySem.W.findIn K (.ref C6) "__getattribute__" = some (some (.builtin "BaseException.__getattribute__"))) (x6gg : PySem.W.findIn K (.ref C6) "__getattr__" = some none) (x6oc : PySem.W.findIn K (.ref C6) "__class__" = some (some (.builtin "object.__class__"))) (x6kp : PySem.W.keepIn K (.ref C6) = true) (x6e0 : PySem.W.excIn K C6 [.type "ValueError", .type "Exception", .type "BaseException", .type "object"] "ValueError.__new__" = true) (x7a : PySem.W.nsIn K mainGlobals "BadAtom" = some (some (.ref C7))) (x7cl : K.lookup C7 = some (excClassObj nm7 q7 C7 N7 bs7 [.ref CS, .type "ValueError", .type "Exception", .type "BaseException", .type "object"] true sn7 sub7 ab7 col7 dd7 p07 p17 p27 p37 p57 "ValueError.__new__")) (x7sa : PySem.W.findIn K (.ref C7) "__setattr__" = some (some (.builtin "object.__setattr__"))) (x7ga : PySem.W.findIn K (.ref C7) "__getattribute__" = some (some (.builtin "BaseException.__getattribute__"))) (x7gg : PySem.W.findIn K (.ref C7) "__getattr__" = some none) (x7oc : PySem.W.findIn K (.ref C7) "__class__" = some (some (.builtin "object.__class__"))) (x7kp : PySem.W.keepIn K (.ref C7) = true) (x7I : PySem.W.findIn K (.ref C7) "__init__" = some (some (.ref y7))) (x7It : PySem.W.typeIn K (.ref y7) = some (.type "function")) (x7Il : K.lookup y7 = some ⟨ocX7, odX7, .func (PySem.W.fnOf "__init__" "BadAtom.__init__" (defArgs s_BadAtom___init__) (defBody s_BadAtom___init__) (defScope s_BadAtom___init__) .none kVX7 dcX7 pmX7 anX7 cdX7 ctX7), slX7⟩) (x7Ic : PySem.W.codeIn K cdX7 "BadAtom.__init__" = true) (x7Ik : PySem.W.keepIn K (.ref y7) = true) (x7nr0 : PySem.W.findIn K (.ref C7) "atom" = some none) (x8a : PySem.W.nsIn K mainGlobals "NoOrder" = some (some (.ref C8))) (x8cl : K.lookup C8 = some (excClassObj nm8 q8 C8 N8 bs8 [.ref CS, .type "ValueError", .type "Exception", .type "BaseException", .type "object"] true sn8 sub8 ab8 col8 dd8 p08 p18 p28 p38 p58 "ValueError.__new__")) (x8sa : PySem.W.findIn K (.ref C8) "__setattr__" = some (some (.builtin "object.__setattr__"))) (x8ga : PySem.W.findIn K (.ref C8) "__getattribute__" = some (some (.builtin "BaseException.__getattribute__"))) (x8gg : PySem.W.findIn K (.ref C8) "__getattr__" = some none) (x8oc : PySem.W.findIn K (.ref C8) "__class__" = some (some (.builtin "object.__class__"))) (x8kp : PySem.W.keepIn K (.ref C8) = true) (x8I : PySem.W.findIn K (.ref C8) "__init__" = some (some (.ref y8))) (x8It : PySem.W.typeIn K (.ref y8) = some (.type "function")) (x8Il : K.lookup y8 = some ⟨ocX8, odX8, .func (PySem.W.fnOf "__init__" "NoOrder.__init__" (defArgs s_NoOrder___init__) (defBody s_NoOrder___init__) (defScope s_NoOrder___init__) .none kVX8 dcX8 pmX8 anX8 cdX8 ctX8), slX8⟩) (x8Ic : PySem.W.codeIn K cdX8 "NoOrder.__init__" = true) (x8Ik : PySem.W.keepIn K (.ref y8) = true) (x8nr0 : PySem.W.findIn K (.ref C8) "row" = some none) (x9a : PySem.W.nsIn K mainGlobals "BadPrices" = some (some (.ref C9))) (x9cl : K.lookup C9 = some (excClassObj nm9 q9 C9 N9 bs9 [.ref CS, .type "ValueError", .type "Exception", .type "BaseException", .type "object"] true sn9 sub9 ab9 col9 dd9 p09 p19 p29 p39 p59 "ValueError.__new__")) (x9sa : PySem.W.findIn K (.ref C9) "__setattr__" = some (some (.builtin "object.__setattr__"))) (x9ga : PySem.W.findIn K (.ref C9) "__getattribute__" = some (some (.builtin "BaseException.__getattribute__"))) (x9gg : PySem.W.findIn K (.ref C9) "__getattr__" = some none) (x9oc : PySem.W.findIn K (.ref C9) "__class__" = some (some (.builtin "object.__class__"))) (x9kp : PySem.W.keepIn K (.ref C9) = true) (x9e0 : PySem.W.excIn K C9 [.type "ValueError", .type "Exception", .type "BaseException", .type "object"] "ValueError.__new__" = true) (x10a : PySem.W.nsIn K mainGlobals "BadChances" = some (some (.ref C10))) (x10cl : K.lookup C10 = some (excClassObj nm10 q10 C10 N10 bs10 [.ref CS, .type "ValueError", .type "Exception", .type "BaseException", .type "object"] true sn10 sub10 ab10 col10 dd10 p010 p110 p210 p310 p510 "ValueError.__new__")) (x10sa : PySem.W.findIn K (.ref C10) "__setattr__" = some (some (.builtin "object.__setattr__"))) (x10ga : PySem.W.findIn K (.ref C10) "__getattribute__" = some (some (.builtin "BaseException.__getattribute__"))) (x10gg : PySem.W.findIn K (.ref C10) "__getattr__" = some none) (x10oc : PySem.W.findIn K (.ref C10) "__class__" = some (some (.builtin "object.__class__"))) (x10kp : PySem.W.keepIn K (.ref C10) = true) (x10e0 : PySem.W.excIn K C10 [.type "ValueError", .type "Exception", .type "BaseException", .type "object"] "ValueError.__new__" = true) (x11a : PySem.W.nsIn K mainGlobals "BadWish" = some (some (.ref C11))) (x11cl : K.lookup C11 = some (excClassObj nm11 q11 C11 N11 bs11 [.ref CS, .type "ValueError", .type "Exception", .type "BaseException", .type "object"] true sn11 sub11 ab11 col11 dd11 p011 p111 p211 p311 p511 "ValueError.__new__")) (x11sa : PySem.W.findIn K (.ref C11) "__setattr__" = some (some (.builtin "object.__setattr__"))) (x11ga : PySem.W.findIn K (.ref C11) "__getattribute__" = some (some (.builtin "BaseException.__getattribute__"))) (x11gg : PySem.W.findIn K (.ref C11) "__getattr__" = some none) (x11oc : PySem.W.findIn K (.ref C11) "__class__" = some (some (.builtin "object.__class__"))) (x11kp : PySem.W.keepIn K (.ref C11) = true) (x11I : PySem.W.findIn K (.ref C11) "__init__" = some (some (.ref y11))) (x11It : PySem.W.typeIn K (.ref y11) = some (.type "function")) (x11Il : K.lookup y11 = some ⟨ocX11, odX11, .func (PySem.W.fnOf "__init__" "BadWish.__init__" (defArgs s_BadWish___init__) (defBody s_BadWish___init__) (defScope s_BadWish___init__) .none kVX11 dcX11 pmX11 anX11 cdX11 ctX11), slX11⟩) (x11Ic : PySem.W.codeIn K cdX11 "BadWish.__init__" = true) (x11Ik : PySem.W.keepIn K (.ref y11) = true) (x11nr0 : PySem.W.findIn K (.ref C11) "index" = some none) (x12a : PySem.W.nsIn K mainGlobals "BadShape" = some (some (.ref C12))) (x12cl : K.lookup C12 = some (excClassObj nm12 q12 C12 N12 bs12 [.ref CS, .type "ValueError", .type "Exception", .type "BaseException", .type "object"] true sn12 sub12 ab12 col12 dd12 p012 p112 p212 p312 p512 "ValueError.__new__")) (x12sa : PySem.W.findIn K (.ref C12) "__setattr__" = some (some (.builtin "object.__setattr__"))) (x12ga : PySem.W.findIn K (.ref C12) "__getattribute__" = some (some (.builtin "BaseException.__getattribute__"))) (x12gg : PySem.W.findIn K (.ref C12) "__getattr__" = some none) (x12oc : PySem.W.findIn K (.ref C12) "__class__" = some (some (.builtin "object.__class__"))) (x12kp : PySem.W.keepIn K (.ref C12) = true) (x12I : PySem.W.findIn K (.ref C12) "__init__" = some (some (.ref y12))) (x12It : PySem.W.typeIn K (.ref y12) = some (.type "function")) (x12Il : K.lookup y12 = some ⟨ocX12, odX12, .func (PySem.W.fnOf "__init__" "BadShape.__init__" (defArgs s_BadShape___init__) (defBody s_BadShape___init__) (defScope s_BadShape___init__) .none kVX12 dcX12 pmX12 anX12 cdX12 ctX12), slX12⟩) (x12Ic : PySem.W.codeIn K cdX12 "BadShape.__init__" = true) (x12Ik : PySem.W.keepIn K (.ref y12) = true) (x12nr0 : PySem.W.findIn K (.ref C12) "index" = some none) (x13a : PySem.W.nsIn K mainGlobals "BadSheet" = some (some (.ref C13))) (x13cl : K.lookup C13 = some (excClassObj nm13 q13 C13 N13 bs13 [.ref CS, .type "ValueError", .type "Exception", .type "BaseException", .type "object"] true sn13 sub13 ab13 col13 dd13 p013 p113 p213 p313 p513 "ValueError.__new__")) (x13sa : PySem.W.findIn K (.ref C13) "__setattr__" = some (some (.builtin "object.__setattr__"))) (x13ga : PySem.W.findIn K (.ref C13) "__getattribute__" = some (some (.builtin "BaseException.__getattribute__"))) (x13gg : PySem.W.findIn K (.ref C13) "__getattr__" = some none) (x13oc : PySem.W.findIn K (.ref C13) "__class__" = some (some (.builtin "object.__class__"))) (x13kp : PySem.W.keepIn K (.ref C13) = true) (x13I : PySem.W.findIn K (.ref C13) "__init__" = some (some (.ref y13))) (x13It : PySem.W.typeIn K (.ref y13) = some (.type "function")) (x13Il : K.lookup y13 = some ⟨ocX13, odX13, .func (PySem.W.fnOf "__init__" "BadSheet.__init__" (defArgs s_BadSheet___init__) (defBody s_BadSheet___init__) (defScope s_BadSheet___init__) .none kVX13 dcX13 pmX13 anX13 cdX13 ctX13), slX13⟩) (x13Ic : PySem.W.codeIn K cdX13 "BadSheet.__init__" = true) (x13Ik : PySem.W.keepIn K (.ref y13) = true) (x13nr0 : PySem.W.findIn K (.ref C13) "sheet" = some none) (x14a : PySem.W.nsIn K mainGlobals "DeskFull" = some (some (.ref C14))) (x14cl : K.lookup C14 = some (excClassObj nm14 q14 C14 N14 bs14 [.ref CS, .type "ValueError", .type "Exception", .type "BaseException", .type "object"] true sn14 sub14 ab14 col14 dd14 p014 p114 p214 p314 p514 "ValueError.__new__")) (x14sa : PySem.W.findIn K (.ref C14) "__setattr__" = some (some (.builtin "object.__setattr__"))) (x14ga : PySem.W.findIn K (.ref C14) "__getattribute__" = some (some (.builtin "BaseException.__getattribute__"))) (x14gg : PySem.W.findIn K (.ref C14) "__getattr__" = some none) (x14oc : PySem.W.findIn K (.ref C14) "__class__" = some (some (.builtin "object.__class__"))) (x14kp : PySem.W.keepIn K (.ref C14) = true) (x14e0 : PySem.W.excIn K C14 [.type "ValueError", .type "Exception", .type "BaseException", .type "object"] "ValueError.__new__" = true) (x15a : PySem.W.nsIn K mainGlobals "NothingToUndo" = some (some (.ref C15))) (x15cl : K.lookup C15 = some (excClassObj nm15 q15 C15 N15 bs15 [.ref CS, .type "ValueError", .type "Exception", .type "BaseException", .type "object"] true sn15 sub15 ab15 col15 dd15 p015 p115 p215 p315 p515 "ValueError.__new__")) (x15sa : PySem.W.findIn K (.ref C15) "__setattr__" = some (some (.builtin "object.__setattr__"))) (x15ga : PySem.W.findIn K (.ref C15) "__getattribute__" = some (some (.builtin "BaseException.__getattribute__"))) (x15gg : PySem.W.findIn K (.ref C15) "__getattr__" = some none) (x15oc : PySem.W.findIn K (.ref C15) "__class__" = some (some (.builtin "object.__class__"))) (x15kp : PySem.W.keepIn K (.ref C15) = true) (x15e0 : PySem.W.excIn K C15 [.type "ValueError", .type "Exception", .type "BaseException", .type "object"] "ValueError.__new__" = true) (x16a : PySem.W.nsIn K mainGlobals "BadCount" = some (some (.ref C16))) (x16cl : K.lookup C16 = some (excClassObj nm16 q16 C16 N16 bs16 [.ref CS, .type "ValueError", .type "Exception", .type "BaseException", .type "object"] true sn16 sub16 ab16 col16 dd16 p016 p116 p216 p316 p516 "ValueError.__new__")) (x16sa : PySem.W.findIn K (.ref C16) "__setattr__" = some (some (.builtin "object.__setattr__"))) (x16ga : PySem.W.findIn K (.ref C16) "__getattribute__" = some (some (.builtin "BaseException.__getattribute__"))) (x16gg : PySem.W.findIn K (.ref C16) "__getattr__" = some none) (x16oc : PySem.W.findIn K (.ref C16) "__class__" = some (some (.builtin "object.__class__"))) (x16kp : PySem.W.keepIn K (.ref C16) = true) (x16I : PySem.W.findIn K (.ref C16) "__init__" = some (some (.ref y16))) (x16It : PySem.W.typeIn K (.ref y16) = some (.type "function")) (x16Il : K.lookup y16 = some ⟨ocX16, odX16, .func (PySem.W.fnOf "__init__" "BadCount.__init__" (defArgs s_BadCount___init__) (defBody s_BadCount___init__) (defScope s_BadCount___init__) .none kVX16 dcX16 pmX16 anX16 cdX16 ctX16), slX16⟩) (x16Ic : PySem.W.codeIn K cdX16 "BadCount.__init__" = true) (x16Ik : PySem.W.keepIn K (.ref y16) = true) (x16nr0 : PySem.W.findIn K (.ref C16) "count" = some none) (x17a : PySem.W.nsIn K mainGlobals "CannotMake" = some (some (.ref C17))) (x17cl : K.lookup C17 = some (excClassObj nm17 q17 C17 N17 bs17 [.ref CS, .type "ValueError", .type "Exception", .type "BaseException", .type "object"] true sn17 sub17 ab17 col17 dd17 p017 p117 p217 p317 p517 "ValueError.__new__")) (x17sa : PySem.W.findIn K (.ref C17) "__setattr__" = some (some (.builtin "object.__setattr__"))) (x17ga : PySem.W.findIn K (.ref C17) "__getattribute__" = some (some (.builtin "BaseException.__getattribute__"))) (x17gg : PySem.W.findIn K (.ref C17) "__getattr__" = some none) (x17oc : PySem.W.findIn K (.ref C17) "__class__" = some (some (.builtin "object.__class__"))) (x17kp : PySem.W.keepIn K (.ref C17) = true) (x17I : PySem.W.findIn K (.ref C17) "__init__" = some (some (.ref y17))) (x17It : PySem.W.typeIn K (.ref y17) = some (.type "function")) (x17Il : K.lookup y17 = some ⟨ocX17, odX17, .func (PySem.W.fnOf "__init__" "CannotMake.__init__" (defArgs s_CannotMake___init__) (defBody s_CannotMake___init__) (defScope s_CannotMake___init__) .none kVX17 dcX17 pmX17 anX17 cdX17 ctX17), slX17⟩) (x17Ic : PySem.W.codeIn K cdX17 "CannotMake.__init__" = true) (x17Ik : PySem.W.keepIn K (.ref y17) = true) (x17nr0 : PySem.W.findIn K (.ref C17) "cells" = some none) (x18a : PySem.W.nsIn K mainGlobals "Mismatch" = some (some (.ref C18))) (x18cl : K.lookup C18 = some (excClassObj nm18 q18 C18 N18 bs18 [.ref CS, .type "ValueError", .type "Exception", .type "BaseException", .type "object"] true sn18 sub18 ab18 col18 dd18 p018 p118 p218 p318 p518 "ValueError.__new__")) (x18sa : PySem.W.findIn K (.ref C18) "__setattr__" = some (some (.builtin "object.__setattr__"))) (x18ga : PySem.W.findIn K (.ref C18) "__getattribute__" = some (some (.builtin "BaseException.__getattribute__"))) (x18gg : PySem.W.findIn K (.ref C18) "__getattr__" = some none) (x18oc : PySem.W.findIn K (.ref C18) "__class__" = some (some (.builtin "object.__class__"))) (x18kp : PySem.W.keepIn K (.ref C18) = true) (x18I : PySem.W.findIn K (.ref C18) "__init__" = some (some (.ref y18))) (x18It : PySem.W.typeIn K (.ref y18) = some (.type "function")) (x18Il : K.lookup y18 = some ⟨ocX18, odX18, .func (PySem.W.fnOf "__init__" "Mismatch.__init__" (defArgs s_Mismatch___init__) (defBody s_Mismatch___init__) (defScope s_Mismatch___init__) .none kVX18 dcX18 pmX18 anX18 cdX18 ctX18), slX18⟩) (x18Ic : PySem.W.codeIn K cdX18 "Mismatch.__init__" = true) (x18Ik : PySem.W.keepIn K (.ref y18) = true) (x18nr0 : PySem.W.findIn K (.ref C18) "cell" = some none) (x19a : PySem.W.nsIn K mainGlobals "BadDeed" = some (some (.ref C19))) (x19cl : K.lookup C19 = some (excClassObj nm19 q19 C19 N19 bs19 [.ref CS, .type "ValueError", .type "Exception", .type "BaseException", .type "object"] true sn19 sub19 ab19 col19 dd19 p019 p119 p219 p319 p519 "ValueError.__new__")) (x19sa : PySem.W.findIn K (.ref C19) "__setattr__" = some (some (.builtin "object.__setattr__"))) (x19ga : PySem.W.findIn K (.ref C19) "__getattribute__" = some (some (.builtin "BaseException.__getattribute__"))) (x19gg : PySem.W.findIn K (.ref C19) "__getattr__" = some none) (x19oc : PySem.W.findIn K (.ref C19) "__class__" = some (some (.builtin "object.__class__"))) (x19kp : PySem.W.keepIn K (.ref C19) = true) (x19I : PySem.W.findIn K (.ref C19) "__init__" = some (some (.ref y19))) (x19It : PySem.W.typeIn K (.ref y19) = some (.type "function")) (x19Il : K.lookup y19 = some ⟨ocX19, odX19, .func (PySem.W.fnOf "__init__" "BadDeed.__init__" (defArgs s_BadDeed___init__) (defBody s_BadDeed___init__) (defScope s_BadDeed___init__) .none kVX19 dcX19 pmX19 anX19 cdX19 ctX19), slX19⟩) (x19Ic : PySem.W.codeIn K cdX19 "BadDeed.__init__" = true) (x19Ik : PySem.W.keepIn K (.ref y19) = true) (x19nr0 : PySem.W.findIn K (.ref C19) "deed" = some none) (x20a : PySem.W.nsIn K mainGlobals "BadNote" = some (some (.ref C20))) (x20cl : K.lookup C20 = some (excClassObj nm20 q20 C20 N20 bs20 [.ref CS, .type "ValueError", .type "Exception", .type "BaseException", .type "object"] true sn20 sub20 ab20 col20 dd20 p020 p120 p220 p320 p520 "ValueError.__new__")) (x20sa : PySem.W.findIn K (.ref C20) "__setattr__" = some (some (.builtin "object.__setattr__"))) (x20ga : PySem.W.findIn K (.ref C20) "__getattribute__" = some (some (.builtin "BaseException.__getattribute__"))) (x20gg : PySem.W.findIn K (.ref C20) "__getattr__" = some none) (x20oc : PySem.W.findIn K (.ref C20) "__class__" = some (some (.builtin "object.__class__"))) (x20kp : PySem.W.keepIn K (.ref C20) = true) (x20I : PySem.W.findIn K (.ref C20) "__init__" = some (some (.ref y20))) (x20It : PySem.W.typeIn K (.ref y20) = some (.type "function")) (x20Il : K.lookup y20 = some ⟨ocX20, odX20, .func (PySem.W.fnOf "__init__" "BadNote.__init__" (defArgs s_BadNote___init__) (defBody s_BadNote___init__) (defScope s_BadNote___init__) .none kVX20 dcX20 pmX20 anX20 cdX20 ctX20), slX20⟩) (x20Ic : PySem.W.codeIn K cdX20 "BadNote.__init__" = true) (x20Ik : PySem.W.keepIn K (.ref y20) = true) (x20nr0 : PySem.W.findIn K (.ref C20) "line" = some none) (x21a : PySem.W.nsIn K mainGlobals "BadClaimText" = some (some (.ref C21))) (x21cl : K.lookup C21 = some (excClassObj nm21 q21 C21 N21 bs21 [.ref CS, .type "ValueError", .type "Exception", .type "BaseException", .type "object"] true sn21 sub21 ab21 col21 dd21 p021 p121 p221 p321 p521 "ValueError.__new__")) (x21sa : PySem.W.findIn K (.ref C21) "__setattr__" = some (some (.builtin "object.__setattr__"))) (x21ga : PySem.W.findIn K (.ref C21) "__getattribute__" = some (some (.builtin "BaseException.__getattribute__"))) (x21gg : PySem.W.findIn K (.ref C21) "__getattr__" = some none) (x21oc : PySem.W.findIn K (.ref C21) "__class__" = some (some (.builtin "object.__class__"))) (x21kp : PySem.W.keepIn K (.ref C21) = true) (x21e0 : PySem.W.excIn K C21 [.type "ValueError", .type "Exception", .type "BaseException", .type "object"] "ValueError.__new__" = true) (xog : PySem.W.specialIn K (.builtin "object.__class__") "__get__" = some (some (.builtin "getset_descriptor.__get__"))) (xot : PySem.W.takesIn K (.builtin "object.__class__") = some true) (xbS : PySem.W.mroIn K CS (.type "BaseException") = some true) (xiS : PySem.W.isClsIn K CS = true) (xtS : PySem.W.typeIn K (.ref CS) = some (.type "type"))
    (hasc : ascB [CS, C0, C1, C2, C3, C4, C5, C6, C7, C8, C9, C10, C11, C12, C13, C14, C15, C16, C17, C18, C19, C20, C21] = true)
    (z_len : PySem.W.nsIn K mainGlobals "len" = some none)
    (z_int : PySem.W.nsIn K mainGlobals "int" = some none)
    (z_bool : PySem.W.nsIn K mainGlobals "bool" = some none)
    (z_str : PySem.W.nsIn K mainGlobals "str" = some none)
    (z_tuple : PySem.W.nsIn K mainGlobals "tuple" = some none)
    (z_list : PySem.W.nsIn K mainGlobals "list" = some none)
    (z_zip : PySem.W.nsIn K mainGlobals "zip" = some none)
    (z_enumerate : PySem.W.nsIn K mainGlobals "enumerate" = some none)
    (z_range : PySem.W.nsIn K mainGlobals "range" = some none)
    (z_max : PySem.W.nsIn K mainGlobals "max" = some none)
    (z_min : PySem.W.nsIn K mainGlobals "min" = some none)
    (z_sum : PySem.W.nsIn K mainGlobals "sum" = some none)
    (z_all : PySem.W.nsIn K mainGlobals "all" = some none)
    (z_any : PySem.W.nsIn K mainGlobals "any" = some none)
    (z_isinstance : PySem.W.nsIn K mainGlobals "isinstance" = some none)
    (z_iter : PySem.W.nsIn K mainGlobals "iter" = some none)
    (z_sorted : PySem.W.nsIn K mainGlobals "sorted" = some none)
    (z_reversed : PySem.W.nsIn K mainGlobals "reversed" = some none)
    (z_ValueError : PySem.W.nsIn K mainGlobals "ValueError" = some none)
    : ∃ fd : FuncData, (∀ (s : Shared) (v : Value), BindsTo s fd ⟨[v], []⟩ [("script", v)]) ∧ ∀ base : Heap, K.In base → base.Ns mainGlobals mg → FnOk l.prog w K mg base CX0 9 fa fd ["script"] (spLaw K) := by
  have e := hfa.symm.trans (PySem.W.mg_of X G a10)
  cases e
  have T : Txt K mg := ⟨PySem.W.mg_none_of X G z_len, PySem.W.mg_none_of X G z_int, PySem.W.mg_none_of X G z_bool, PySem.W.mg_none_of X G z_str, PySem.W.mg_none_of X G z_tuple, PySem.W.mg_none_of X G z_list, PySem.W.mg_none_of X G z_zip, PySem.W.mg_none_of X G z_enumerate, PySem.W.mg_none_of X G z_range, PySem.W.mg_none_of X G z_max, PySem.W.mg_none_of X G z_min, PySem.W.mg_none_of X G z_sum, PySem.W.mg_none_of X G z_all, PySem.W.mg_none_of X G z_any, PySem.W.mg_none_of X G z_isinstance, PySem.W.mg_none_of X G z_iter, PySem.W.mg_none_of X G z_sorted, PySem.W.mg_none_of X G z_reversed⟩
  have X0 := fun_mk (st := s_BadName___init__) x0Il x0Ic x0Ik
  have bX0 := X0.binds (ps := ["self", "index"]) fun _ _ _ _ _ _ us hl => match us, hl with | [_, _], _ => rfl
  have X1 := fun_mk (st := s_BadStamp___init__) x1Il x1Ic x1Ik
  have bX1 := X1.binds (ps := ["self", "index"]) fun _ _ _ _ _ _ us hl => match us, hl with | [_, _], _ => rfl
  have X2 := fun_mk (st := s_NameTaken___init__) x2Il x2Ic x2Ik
  have bX2 := X2.binds (ps := ["self", "name"]) fun _ _ _ _ _ _ us hl => match us, hl with | [_, _], _ => rfl
  have X3 := fun_mk (st := s_SizesDiffer___init__) x3Il x3Ic x3Ik
  have bX3 := X3.binds (ps := ["self", "one", "two"]) fun _ _ _ _ _ _ us hl => match us, hl with | [_, _, _], _ => rfl
  have X4 := fun_mk (st := s_UnknownName___init__) x4Il x4Ic x4Ik
  have bX4 := X4.binds (ps := ["self", "name"]) fun _ _ _ _ _ _ us hl => match us, hl with | [_, _], _ => rfl
  have X5 := fun_mk (st := s_BadStep___init__) x5Il x5Ic x5Ik
  have bX5 := X5.binds (ps := ["self", "index"]) fun _ _ _ _ _ _ us hl => match us, hl with | [_, _], _ => rfl
  have X7 := fun_mk (st := s_BadAtom___init__) x7Il x7Ic x7Ik
  have bX7 := X7.binds (ps := ["self", "atom"]) fun _ _ _ _ _ _ us hl => match us, hl with | [_, _], _ => rfl
  have X8 := fun_mk (st := s_NoOrder___init__) x8Il x8Ic x8Ik
  have bX8 := X8.binds (ps := ["self", "row"]) fun _ _ _ _ _ _ us hl => match us, hl with | [_, _], _ => rfl
  have X11 := fun_mk (st := s_BadWish___init__) x11Il x11Ic x11Ik
  have bX11 := X11.binds (ps := ["self", "index"]) fun _ _ _ _ _ _ us hl => match us, hl with | [_, _], _ => rfl
  have X12 := fun_mk (st := s_BadShape___init__) x12Il x12Ic x12Ik
  have bX12 := X12.binds (ps := ["self", "index"]) fun _ _ _ _ _ _ us hl => match us, hl with | [_, _], _ => rfl
  have X13 := fun_mk (st := s_BadSheet___init__) x13Il x13Ic x13Ik
  have bX13 := X13.binds (ps := ["self", "sheet"]) fun _ _ _ _ _ _ us hl => match us, hl with | [_, _], _ => rfl
  have X16 := fun_mk (st := s_BadCount___init__) x16Il x16Ic x16Ik
  have bX16 := X16.binds (ps := ["self", "count"]) fun _ _ _ _ _ _ us hl => match us, hl with | [_, _], _ => rfl
  have X17 := fun_mk (st := s_CannotMake___init__) x17Il x17Ic x17Ik
  have bX17 := X17.binds (ps := ["self", "cells"]) fun _ _ _ _ _ _ us hl => match us, hl with | [_, _], _ => rfl
  have X18 := fun_mk (st := s_Mismatch___init__) x18Il x18Ic x18Ik
  have bX18 := X18.binds (ps := ["self", "cell"]) fun _ _ _ _ _ _ us hl => match us, hl with | [_, _], _ => rfl
  have X19 := fun_mk (st := s_BadDeed___init__) x19Il x19Ic x19Ik
  have bX19 := X19.binds (ps := ["self", "deed"]) fun _ _ _ _ _ _ us hl => match us, hl with | [_, _], _ => rfl
  have X20 := fun_mk (st := s_BadNote___init__) x20Il x20Ic x20Ik
  have bX20 := X20.binds (ps := ["self", "line"]) fun _ _ _ _ _ _ us hl => match us, hl with | [_, _], _ => rfl
  have TE : ErAll K mg (adr [CS, C0, C1, C2, C3, C4, C5, C6, C7, C8, C9, C10, C11, C12, C13, C14, C15, C16, C17, C18, C19, C20, C21]) (fun i => ([y0, y1, y2, y3, y4, y5, 0, y7, y8, 0, 0, y11, y12, y13, 0, 0, y16, y17, y18, y19, y20, 0] : List Addr).getD i 0) CS := er_all (K := K) (mg := mg) (l := [CS, C0, C1, C2, C3, C4, C5, C6, C7, C8, C9, C10, C11, C12, C13, C14, C15, C16, C17, C18, C19, C20, C21]) (fs := (fun i => ([y0, y1, y2, y3, y4, y5, 0, y7, y8, 0, 0, y11, y12, y13, 0, 0, y16, y17, y18, y19, y20, 0] : List Addr).getD i 0)) rfl hasc (PySem.W.mg_of X G xaS) (PySem.W.mg_none_of X G z_ValueError) (PySem.W.mg_of X G x0a) (PySem.W.mg_of X G x1a) (PySem.W.mg_of X G x2a) (PySem.W.mg_of X G x3a) (PySem.W.mg_of X G x4a) (PySem.W.mg_of X G x5a) (PySem.W.mg_of X G x6a) (PySem.W.mg_of X G x7a) (PySem.W.mg_of X G x8a) (PySem.W.mg_of X G x9a) (PySem.W.mg_of X G x10a) (PySem.W.mg_of X G x11a) (PySem.W.mg_of X G x12a) (PySem.W.mg_of X G x13a) (PySem.W.mg_of X G x14a) (PySem.W.mg_of X G x15a) (PySem.W.mg_of X G x16a) (PySem.W.mg_of X G x17a) (PySem.W.mg_of X G x18a) (PySem.W.mg_of X G x19a) (PySem.W.mg_of X G x20a) (PySem.W.mg_of X G x21a) (all22 (Pr := fun w => ExP K (adr [CS, C0, C1, C2, C3, C4, C5, C6, C7, C8, C9, C10, C11, C12, C13, C14, C15, C16, C17, C18, C19, C20, C21] w) CS) ⟨⟨_, _, _, _, _, _, _, _, _, _, _, _, _, _, x0cl⟩, x0sa, x0ga, x0gg, x0oc, x0kp⟩ ⟨⟨_, _, _, _, _, _, _, _, _, _, _, _, _, _, x1cl⟩, x1sa, x1ga, x1gg, x1oc, x1kp⟩ ⟨⟨_, _, _, _, _, _, _, _, _, _, _, _, _, _, x2cl⟩, x2sa, x2ga, x2gg, x2oc, x2kp⟩ ⟨⟨_, _, _, _, _, _, _, _, _, _, _, _, _, _, x3cl⟩, x3sa, x3ga, x3gg, x3oc, x3kp⟩ ⟨⟨_, _, _, _, _, _, _, _, _, _, _, _, _, _, x4cl⟩, x4sa, x4ga, x4gg, x4oc, x4kp⟩ ⟨⟨_, _, _, _, _, _, _, _, _, _, _, _, _, _, x5cl⟩, x5sa, x5ga, x5gg, x5oc, x5kp⟩ ⟨⟨_, _, _, _, _, _, _, _, _, _, _, _, _, _, x6cl⟩, x6sa, x6ga, x6gg, x6oc, x6kp⟩ ⟨⟨_, _, _, _, _, _, _, _, _, _, _, _, _, _, x7cl⟩, x7sa, x7ga, x7gg, x7oc, x7kp⟩ ⟨⟨_, _, _, _, _, _, _, _, _, _, _, _, _, _, x8cl⟩, x8sa, x8ga, x8gg, x8oc, x8kp⟩ ⟨⟨_, _, _, _, _, _, _, _, _, _, _, _, _, _, x9cl⟩, x9sa, x9ga, x9gg, x9oc, x9kp⟩ ⟨⟨_, _, _, _, _, _, _, _, _, _, _, _, _, _, x10cl⟩, x10sa, x10ga, x10gg, x10oc, x10kp⟩ ⟨⟨_, _, _, _, _, _, _, _, _, _, _, _, _, _, x11cl⟩, x11sa, x11ga, x11gg, x11oc, x11kp⟩ ⟨⟨_, _, _, _, _, _, _, _, _, _, _, _, _, _, x12cl⟩, x12sa, x12ga, x12gg, x12oc, x12kp⟩ ⟨⟨_, _, _, _, _, _, _, _, _, _, _, _, _, _, x13cl⟩, x13sa, x13ga, x13gg, x13oc, x13kp⟩ ⟨⟨_, _, _, _, _, _, _, _, _, _, _, _, _, _, x14cl⟩, x14sa, x14ga, x14gg, x14oc, x14kp⟩ ⟨⟨_, _, _, _, _, _, _, _, _, _, _, _, _, _, x15cl⟩, x15sa, x15ga, x15gg, x15oc, x15kp⟩ ⟨⟨_, _, _, _, _, _, _, _, _, _, _, _, _, _, x16cl⟩, x16sa, x16ga, x16gg, x16oc, x16kp⟩ ⟨⟨_, _, _, _, _, _, _, _, _, _, _, _, _, _, x17cl⟩, x17sa, x17ga, x17gg, x17oc, x17kp⟩ ⟨⟨_, _, _, _, _, _, _, _, _, _, _, _, _, _, x18cl⟩, x18sa, x18ga, x18gg, x18oc, x18kp⟩ ⟨⟨_, _, _, _, _, _, _, _, _, _, _, _, _, _, x19cl⟩, x19sa, x19ga, x19gg, x19oc, x19kp⟩ ⟨⟨_, _, _, _, _, _, _, _, _, _, _, _, _, _, x20cl⟩, x20sa, x20ga, x20gg, x20oc, x20kp⟩ ⟨⟨_, _, _, _, _, _, _, _, _, _, _, _, _, _, x21cl⟩, x21sa, x21ga, x21gg, x21oc, x21kp⟩) xog xot (all22 (Pr := fun w => flT w ≠ [] → PySem.W.findIn K (.ref (adr [CS, C0, C1, C2, C3, C4, C5, C6, C7, C8, C9, C10, C11, C12, C13, C14, C15, C16, C17, C18, C19, C20, C21] w)) "__init__" = some (some (.ref ((fun i => ([y0, y1, y2, y3, y4, y5, 0, y7, y8, 0, 0, y11, y12, y13, 0, 0, y16, y17, y18, y19, y20, 0] : List Addr).getD i 0) w)))) (fun _ => x0I) (fun _ => x1I) (fun _ => x2I) (fun _ => x3I) (fun _ => x4I) (fun _ => x5I) (fun h => absurd rfl h) (fun _ => x7I) (fun _ => x8I) (fun h => absurd rfl h) (fun h => absurd rfl h) (fun _ => x11I) (fun _ => x12I) (fun _ => x13I) (fun h => absurd rfl h) (fun h => absurd rfl h) (fun _ => x16I) (fun _ => x17I) (fun _ => x18I) (fun _ => x19I) (fun _ => x20I) (fun h => absurd rfl h)) (all22 (Pr := fun w => flT w ≠ [] → PySem.W.typeIn K (.ref ((fun i => ([y0, y1, y2, y3, y4, y5, 0, y7, y8, 0, 0, y11, y12, y13, 0, 0, y16, y17, y18, y19, y20, 0] : List Addr).getD i 0) w)) = some (.type "function")) (fun _ => x0It) (fun _ => x1It) (fun _ => x2It) (fun _ => x3It) (fun _ => x4It) (fun _ => x5It) (fun h => absurd rfl h) (fun _ => x7It) (fun _ => x8It) (fun h => absurd rfl h) (fun h => absurd rfl h) (fun _ => x11It) (fun _ => x12It) (fun _ => x13It) (fun h => absurd rfl h) (fun h => absurd rfl h) (fun _ => x16It) (fun _ => x17It) (fun _ => x18It) (fun _ => x19It) (fun _ => x20It) (fun h => absurd rfl h)) (all22 (Pr := fun w => ∀ f ∈ flT w, PySem.W.findIn K (.ref (adr [CS, C0, C1, C2, C3, C4, C5, C6, C7, C8, C9, C10, C11, C12, C13, C14, C15, C16, C17, C18, C19, C20, C21] w)) f = some none) (List.forall_mem_singleton.mpr x0nr0) (List.forall_mem_singleton.mpr x1nr0) (List.forall_mem_singleton.mpr x2nr0) (List.forall_mem_cons.mpr ⟨x3nr0, List.forall_mem_singleton.mpr x3nr1⟩) (List.forall_mem_singleton.mpr x4nr0) (List.forall_mem_singleton.mpr x5nr0) (fun f hf => absurd hf List.not_mem_nil) (List.forall_mem_singleton.mpr x7nr0) (List.forall_mem_singleton.mpr x8nr0) (fun f hf => absurd hf List.not_mem_nil) (fun f hf => absurd hf List.not_mem_nil) (List.forall_mem_singleton.mpr x11nr0) (List.forall_mem_singleton.mpr x12nr0) (List.forall_mem_singleton.mpr x13nr0) (fun f hf => absurd hf List.not_mem_nil) (fun f hf => absurd hf List.not_mem_nil) (List.forall_mem_singleton.mpr x16nr0) (List.forall_mem_singleton.mpr x17nr0) (List.forall_mem_singleton.mpr x18nr0) (List.forall_mem_singleton.mpr x19nr0) (List.forall_mem_singleton.mpr x20nr0) (fun f hf => absurd hf List.not_mem_nil)) (all22 (Pr := fun w => flT w = [] → PySem.W.excIn K (adr [CS, C0, C1, C2, C3, C4, C5, C6, C7, C8, C9, C10, C11, C12, C13, C14, C15, C16, C17, C18, C19, C20, C21] w) [.type "ValueError", .type "Exception", .type "BaseException", .type "object"] "ValueError.__new__" = true) (fun h => nomatch h) (fun h => nomatch h) (fun h => nomatch h) (fun h => nomatch h) (fun h => nomatch h) (fun h => nomatch h) (fun _ => x6e0) (fun h => nomatch h) (fun h => nomatch h) (fun _ => x9e0) (fun _ => x10e0) (fun h => nomatch h) (fun h => nomatch h) (fun h => nomatch h) (fun _ => x14e0) (fun _ => x15e0) (fun h => nomatch h) (fun h => nomatch h) (fun h => nomatch h) (fun h => nomatch h) (fun h => nomatch h) (fun _ => x21e0)) xbS xiS xtS
  have F := fun_mk (st := s_law) l10 c10 k10
  exact ⟨_, fun s v => .of_eq rfl, fun base _ _ => fn_all (Cs := adr [CS, C0, C1, C2, C3, C4, C5, C6, C7, C8, C9, C10, C11, C12, C13, C14, C15, C16, C17, C18, C19, C20, C21]) (fs := (fun i => ([y0, y1, y2, y3, y4, y5, 0, y7, y8, 0, 0, y11, y12, y13, 0, 0, y16, y17, y18, y19, y20, 0] : List Addr).getD i 0)) (CS := CS) (fds := (fun i => ([PySem.W.fnOf "__init__" "BadName.__init__" (defArgs s_BadName___init__) (defBody s_BadName___init__) (defScope s_BadName___init__) .none kVX0 dcX0 pmX0 anX0 cdX0 ctX0, PySem.W.fnOf "__init__" "BadStamp.__init__" (defArgs s_BadStamp___init__) (defBody s_BadStamp___init__) (defScope s_BadStamp___init__) .none kVX1 dcX1 pmX1 anX1 cdX1 ctX1, PySem.W.fnOf "__init__" "NameTaken.__init__" (defArgs s_NameTaken___init__) (defBody s_NameTaken___init__) (defScope s_NameTaken___init__) .none kVX2 dcX2 pmX2 anX2 cdX2 ctX2, PySem.W.fnOf "__init__" "SizesDiffer.__init__" (defArgs s_SizesDiffer___init__) (defBody s_SizesDiffer___init__) (defScope s_SizesDiffer___init__) .none kVX3 dcX3 pmX3 anX3 cdX3 ctX3, PySem.W.fnOf "__init__" "UnknownName.__init__" (defArgs s_UnknownName___init__) (defBody s_UnknownName___init__) (defScope s_UnknownName___init__) .none kVX4 dcX4 pmX4 anX4 cdX4 ctX4, PySem.W.fnOf "__init__" "BadStep.__init__" (defArgs s_BadStep___init__) (defBody s_BadStep___init__) (defScope s_BadStep___init__) .none kVX5 dcX5 pmX5 anX5 cdX5 ctX5, PySem.W.fnOf "__init__" "BadName.__init__" (defArgs s_BadName___init__) (defBody s_BadName___init__) (defScope s_BadName___init__) .none kVX0 dcX0 pmX0 anX0 cdX0 ctX0, PySem.W.fnOf "__init__" "BadAtom.__init__" (defArgs s_BadAtom___init__) (defBody s_BadAtom___init__) (defScope s_BadAtom___init__) .none kVX7 dcX7 pmX7 anX7 cdX7 ctX7, PySem.W.fnOf "__init__" "NoOrder.__init__" (defArgs s_NoOrder___init__) (defBody s_NoOrder___init__) (defScope s_NoOrder___init__) .none kVX8 dcX8 pmX8 anX8 cdX8 ctX8, PySem.W.fnOf "__init__" "BadName.__init__" (defArgs s_BadName___init__) (defBody s_BadName___init__) (defScope s_BadName___init__) .none kVX0 dcX0 pmX0 anX0 cdX0 ctX0, PySem.W.fnOf "__init__" "BadName.__init__" (defArgs s_BadName___init__) (defBody s_BadName___init__) (defScope s_BadName___init__) .none kVX0 dcX0 pmX0 anX0 cdX0 ctX0, PySem.W.fnOf "__init__" "BadWish.__init__" (defArgs s_BadWish___init__) (defBody s_BadWish___init__) (defScope s_BadWish___init__) .none kVX11 dcX11 pmX11 anX11 cdX11 ctX11, PySem.W.fnOf "__init__" "BadShape.__init__" (defArgs s_BadShape___init__) (defBody s_BadShape___init__) (defScope s_BadShape___init__) .none kVX12 dcX12 pmX12 anX12 cdX12 ctX12, PySem.W.fnOf "__init__" "BadSheet.__init__" (defArgs s_BadSheet___init__) (defBody s_BadSheet___init__) (defScope s_BadSheet___init__) .none kVX13 dcX13 pmX13 anX13 cdX13 ctX13, PySem.W.fnOf "__init__" "BadName.__init__" (defArgs s_BadName___init__) (defBody s_BadName___init__) (defScope s_BadName___init__) .none kVX0 dcX0 pmX0 anX0 cdX0 ctX0, PySem.W.fnOf "__init__" "BadName.__init__" (defArgs s_BadName___init__) (defBody s_BadName___init__) (defScope s_BadName___init__) .none kVX0 dcX0 pmX0 anX0 cdX0 ctX0, PySem.W.fnOf "__init__" "BadCount.__init__" (defArgs s_BadCount___init__) (defBody s_BadCount___init__) (defScope s_BadCount___init__) .none kVX16 dcX16 pmX16 anX16 cdX16 ctX16, PySem.W.fnOf "__init__" "CannotMake.__init__" (defArgs s_CannotMake___init__) (defBody s_CannotMake___init__) (defScope s_CannotMake___init__) .none kVX17 dcX17 pmX17 anX17 cdX17 ctX17, PySem.W.fnOf "__init__" "Mismatch.__init__" (defArgs s_Mismatch___init__) (defBody s_Mismatch___init__) (defScope s_Mismatch___init__) .none kVX18 dcX18 pmX18 anX18 cdX18 ctX18, PySem.W.fnOf "__init__" "BadDeed.__init__" (defArgs s_BadDeed___init__) (defBody s_BadDeed___init__) (defScope s_BadDeed___init__) .none kVX19 dcX19 pmX19 anX19 cdX19 ctX19, PySem.W.fnOf "__init__" "BadNote.__init__" (defArgs s_BadNote___init__) (defBody s_BadNote___init__) (defScope s_BadNote___init__) .none kVX20 dcX20 pmX20 anX20 cdX20 ctX20, PySem.W.fnOf "__init__" "BadName.__init__" (defArgs s_BadName___init__) (defBody s_BadName___init__) (defScope s_BadName___init__) .none kVX0 dcX0 pmX0 anX0 cdX0 ctX0] : List FuncData).getD i (PySem.W.fnOf "__init__" "BadName.__init__" (defArgs s_BadName___init__) (defBody s_BadName___init__) (defScope s_BadName___init__) .none kVX0 dcX0 pmX0 anX0 cdX0 ctX0))) T TE X0 bX0 X1 bX1 X2 bX2 X3 bX3 X4 bX4 X5 bX5 X7 bX7 X8 bX8 X11 bX11 X12 bX12 X13 bX13 X16 bX16 X17 bX17 X18 bX18 X19 bX19 X20 bX20 F (at_as_tuples X G a0 l0 c0 k0) (at__law_cell X G a1 l1 c1 k1) (at__law_draw X G a2 l2 c2 k2) (at__law_name X G a3 l3 c3 k3) (at__law_made X G a4 l4 c4 k4) (at__law_fields X G a5 l5 c5 k5) (at__law_due X G a6 l6 c6 k6) (at__law_kinds X G a7 l7 c7 k7) (at__law_raised X G a8 l8 c8 k8) (at__law_given X G a9 l9 c9 k9)⟩
end Mi
open PySem PySem.W PyProof.Rows
set_option maxHeartbeats 0 in
theorem PySem.Challenge.cw_stampsheets_k06_errors_kept_holds : PySem.Challenge.rw_stampsheets_k06_errors_kept.Holds := by
  w_on; o_law; k_head; (case hw => w_witness2)
  k_fill
  refine L2.walk_of (l := PySem.Challenge.rw_stampsheets_k06_errors_kept) (n := 63) (k := 9) (x := "script") (CX := fun _ => L2.CX0) (sp := fun w => Mi.spLaw _) rfl (by decide) rfl ⟨rfl, by decide, by decide⟩ (fun w h Y => PySem.W.kIn_of Y) ?F (fun _ _ a ns hl _ hS => ⟨ns, hl, .cons ⟨a, rfl, hS⟩ .nil, fun v H2 _ hv => hv⟩) (fun _ _ _ _ _ h => h)
  case F =>
    intro w mg fa h KX G hmg
    refine' Mi.all_mk KX G hmg ?a0 ?l0 ?c0 ?k0 ?a1 ?l1 ?c1 ?k1 ?a2 ?l2 ?c2 ?k2 ?a3 ?l3 ?c3 ?k3 ?a4 ?l4 ?c4 ?k4 ?a5 ?l5 ?c5 ?k5 ?a6 ?l6 ?c6 ?k6 ?a7 ?l7 ?c7 ?k7 ?a8 ?l8 ?c8 ?k8 ?a9 ?l9 ?c9 ?k9 ?a10 ?l10 ?c10 ?k10 ?xaS ?x0a ?x0cl ?x0sa ?x0ga ?x0gg ?x0oc ?x0kp ?x0I ?x0It ?x0Il ?x0Ic ?x0Ik ?x0nr0 ?x1a ?x1cl ?x1sa ?x1ga ?x1gg ?x1oc ?x1kp ?x1I ?x1It ?x1Il ?x1Ic ?x1Ik ?x1nr0 ?x2a ?x2cl ?x2sa ?x2ga ?x2gg ?x2oc ?x2kp ?x2I ?x2It ?x2Il ?x2Ic ?x2Ik ?x2nr0 ?x3a ?x3cl ?x3sa ?x3ga ?x3gg ?x3oc ?x3kp ?x3I ?x3It ?x3Il ?x3Ic ?x3Ik ?x3nr0 ?x3nr1 ?x4a ?x4cl ?x4sa ?x4ga ?x4gg ?x4oc ?x4kp ?x4I ?x4It ?x4Il ?x4Ic ?x4Ik ?x4nr0 ?x5a ?x5cl ?x5sa ?x5ga ?x5gg ?x5oc ?x5kp ?x5I ?x5It ?x5Il ?x5Ic ?x5Ik ?x5nr0 ?x6a ?x6cl ?x6sa ?x6ga ?x6gg ?x6oc ?x6kp ?x6e0 ?x7a ?x7cl ?x7sa ?x7ga ?x7gg ?x7oc ?x7kp ?x7I ?x7It ?x7Il ?x7Ic ?x7Ik ?x7nr0 ?x8a ?x8cl ?x8sa ?x8ga ?x8gg ?x8oc ?x8kp ?x8I ?x8It ?x8Il ?x8Ic ?x8Ik ?x8nr0 ?x9a ?x9cl ?x9sa ?x9ga ?x9gg ?x9oc ?x9kp ?x9e0 ?x10a ?x10cl ?x10sa ?x10ga ?x10gg ?x10oc ?x10kp ?x10e0 ?x11a ?x11cl ?x11sa ?x11ga ?x11gg ?x11oc ?x11kp ?x11I ?x11It ?x11Il ?x11Ic ?x11Ik ?x11nr0 ?x12a ?x12cl ?x12sa ?x12ga ?x12gg ?x12oc ?x12kp ?x12I ?x12It ?x12Il ?x12Ic ?x12Ik ?x12nr0 ?x13a ?x13cl ?x13sa ?x13ga ?x13gg ?x13oc ?x13kp ?x13I ?x13It ?x13Il ?x13Ic ?x13Ik ?x13nr0 ?x14a ?x14cl ?x14sa ?x14ga ?x14gg ?x14oc ?x14kp ?x14e0 ?x15a ?x15cl ?x15sa ?x15ga ?x15gg ?x15oc ?x15kp ?x15e0 ?x16a ?x16cl ?x16sa ?x16ga ?x16gg ?x16oc ?x16kp ?x16I ?x16It ?x16Il ?x16Ic ?x16Ik ?x16nr0 ?x17a ?x17cl ?x17sa ?x17ga ?x17gg ?x17oc ?x17kp ?x17I ?x17It ?x17Il ?x17Ic ?x17Ik ?x17nr0 ?x18a ?x18cl ?x18sa ?x18ga ?x18gg ?x18oc ?x18kp ?x18I ?x18It ?x18Il ?x18Ic ?x18Ik ?x18nr0 ?x19a ?x19cl ?x19sa ?x19ga ?x19gg ?x19oc ?x19kp ?x19I ?x19It ?x19Il ?x19Ic ?x19Ik ?x19nr0 ?x20a ?x20cl ?x20sa ?x20ga ?x20gg ?x20oc ?x20kp ?x20I ?x20It ?x20Il ?x20Ic ?x20Ik ?x20nr0 ?x21a ?x21cl ?x21sa ?x21ga ?x21gg ?x21oc ?x21kp ?x21e0 ?xog ?xot ?xbS ?xiS ?xtS ?hasc ?z_len ?z_int ?z_bool ?z_str ?z_tuple ?z_list ?z_zip ?z_enumerate ?z_range ?z_max ?z_min ?z_sum ?z_all ?z_any ?z_isinstance ?z_iter ?z_sorted ?z_reversed ?z_ValueError
    case xaS => k_is
    case x0a => k_is
    case x0cl => k_is
    case x0I => k_is
    case x1a => k_is
    case x1cl => k_is
    case x1I => k_is
    case x2a => k_is
    case x2cl => k_is
    case x2I => k_is
    case x3a => k_is
    case x3cl => k_is
    case x3I => k_is
    case x4a => k_is
    case x4cl => k_is
    case x4I => k_is
    case x5a => k_is
    case x5cl => k_is
    case x5I => k_is
    case x6a => k_is
    case x6cl => k_is
    case x7a => k_is
    case x7cl => k_is
    case x7I => k_is
    case x8a => k_is
    case x8cl => k_is
    case x8I => k_is
    case x9a => k_is
    case x9cl => k_is
    case x10a => k_is
    case x10cl => k_is
    case x11a => k_is
    case x11cl => k_is
    case x11I => k_is
    case x12a => k_is
    case x12cl => k_is
    case x12I => k_is
    case x13a => k_is
    case x13cl => k_is
    case x13I => k_is
    case x14a => k_is
    case x14cl => k_is
    case x15a => k_is
    case x15cl => k_is
    case x16a => k_is
    case x16cl => k_is
    case x16I => k_is
    case x17a => k_is
    case x17cl => k_is
    case x17I => k_is
    case x18a => k_is
    case x18cl => k_is
    case x18I => k_is
    case x19a => k_is
    case x19cl => k_is
    case x19I => k_is
    case x20a => k_is
    case x20cl => k_is
    case x20I => k_is
    case x21a => k_is
    case x21cl => k_is
    case a0 => k_is
    case l0 => k_is
    case c0 => k_is
    case k0 => k_is
    case a1 => k_is
    case l1 => k_is
    case c1 => k_is
    case k1 => k_is
    case a2 => k_is
    case l2 => k_is
    case c2 => k_is
    case k2 => k_is
    case a3 => k_is
    case l3 => k_is
    case c3 => k_is
    case k3 => k_is
    case a4 => k_is
    case l4 => k_is
    case c4 => k_is
    case k4 => k_is
    case a5 => k_is
    case l5 => k_is
    case c5 => k_is
    case k5 => k_is
    case a6 => k_is
    case l6 => k_is
    case c6 => k_is
    case k6 => k_is
    case a7 => k_is
    case l7 => k_is
    case c7 => k_is
    case k7 => k_is
    case a8 => k_is
    case l8 => k_is
    case c8 => k_is
    case k8 => k_is
    case a9 => k_is
    case l9 => k_is
    case c9 => k_is
    case k9 => k_is
    case a10 => k_is
    case l10 => k_is
    case c10 => k_is
    case k10 => k_is
    case x0sa => k_is
    case x0ga => k_is
    case x0gg => k_is
    case x0oc => k_is
    case x0kp => k_is
    case x0It => k_is
    case x0Il => k_is
    case x0Ic => k_is
    case x0Ik => k_is
    case x0nr0 => k_is
    case x1sa => k_is
    case x1ga => k_is
    case x1gg => k_is
    case x1oc => k_is
    case x1kp => k_is
    case x1It => k_is
    case x1Il => k_is
    case x1Ic => k_is
    case x1Ik => k_is
    case x1nr0 => k_is
    case x2sa => k_is
    case x2ga => k_is
    case x2gg => k_is
    case x2oc => k_is
    case x2kp => k_is
    case x2It => k_is
    case x2Il => k_is
    case x2Ic => k_is
    case x2Ik => k_is
    case x2nr0 => k_is
    case x3sa => k_is
    case x3ga => k_is
    case x3gg => k_is
    case x3oc => k_is
    case x3kp => k_is
    case x3It => k_is
    case x3Il => k_is
    case x3Ic => k_is
    case x3Ik => k_is
    case x3nr0 => k_is
    case x3nr1 => k_is
    case x4sa => k_is
    case x4ga => k_is
    case x4gg => k_is
    case x4oc => k_is
    case x4kp => k_is
    case x4It => k_is
    case x4Il => k_is
    case x4Ic => k_is
    case x4Ik => k_is
    case x4nr0 => k_is
    case x5sa => k_is
    case x5ga => k_is
    case x5gg => k_is
    case x5oc => k_is
    case x5kp => k_is
    case x5It => k_is
    case x5Il => k_is
    case x5Ic => k_is
    case x5Ik => k_is
    case x5nr0 => k_is
    case x6sa => k_is
    case x6ga => k_is
    case x6gg => k_is
    case x6oc => k_is
    case x6kp => k_is
    case x6e0 => k_exc
    case x7sa => k_is
    case x7ga => k_is
    case x7gg => k_is
    case x7oc => k_is
    case x7kp => k_is
    case x7It => k_is
    case x7Il => k_is
    case x7Ic => k_is
    case x7Ik => k_is
    case x7nr0 => k_is
    case x8sa => k_is
    case x8ga => k_is
    case x8gg => k_is
    case x8oc => k_is
    case x8kp => k_is
    case x8It => k_is
    case x8Il => k_is
    case x8Ic => k_is
    case x8Ik => k_is
    case x8nr0 => k_is
    case x9sa => k_is
    case x9ga => k_is
    case x9gg => k_is
    case x9oc => k_is
    case x9kp => k_is
    case x9e0 => k_exc
    case x10sa => k_is
    case x10ga => k_is
    case x10gg => k_is
    case x10oc => k_is
    case x10kp => k_is
    case x10e0 => k_exc
    case x11sa => k_is
    case x11ga => k_is
    case x11gg => k_is
    case x11oc => k_is
    case x11kp => k_is
    case x11It => k_is
    case x11Il => k_is
    case x11Ic => k_is
    case x11Ik => k_is
    case x11nr0 => k_is
    case x12sa => k_is
    case x12ga => k_is
    case x12gg => k_is
    case x12oc => k_is
    case x12kp => k_is
    case x12It => k_is
    case x12Il => k_is
    case x12Ic => k_is
    case x12Ik => k_is
    case x12nr0 => k_is
    case x13sa => k_is
    case x13ga => k_is
    case x13gg => k_is
    case x13oc => k_is
    case x13kp => k_is
    case x13It => k_is
    case x13Il => k_is
    case x13Ic => k_is
    case x13Ik => k_is
    case x13nr0 => k_is
    case x14sa => k_is
    case x14ga => k_is
    case x14gg => k_is
    case x14oc => k_is
    case x14kp => k_is
    case x14e0 => k_exc
    case x15sa => k_is
    case x15ga => k_is
    case x15gg => k_is
    case x15oc => k_is
    case x15kp => k_is
    case x15e0 => k_exc
    case x16sa => k_is
    case x16ga => k_is
    case x16gg => k_is
    case x16oc => k_is
    case x16kp => k_is
    case x16It => k_is
    case x16Il => k_is
    case x16Ic => k_is
    case x16Ik => k_is
    case x16nr0 => k_is
    case x17sa => k_is
    case x17ga => k_is
    case x17gg => k_is
    case x17oc => k_is
    case x17kp => k_is
    case x17It => k_is
    case x17Il => k_is
    case x17Ic => k_is
    case x17Ik => k_is
    case x17nr0 => k_is
    case x18sa => k_is
    case x18ga => k_is
    case x18gg => k_is
    case x18oc => k_is
    case x18kp => k_is
    case x18It => k_is
    case x18Il => k_is
    case x18Ic => k_is
    case x18Ik => k_is
    case x18nr0 => k_is
    case x19sa => k_is
    case x19ga => k_is
    case x19gg => k_is
    case x19oc => k_is
    case x19kp => k_is
    case x19It => k_is
    case x19Il => k_is
    case x19Ic => k_is
    case x19Ik => k_is
    case x19nr0 => k_is
    case x20sa => k_is
    case x20ga => k_is
    case x20gg => k_is
    case x20oc => k_is
    case x20kp => k_is
    case x20It => k_is
    case x20Il => k_is
    case x20Ic => k_is
    case x20Ik => k_is
    case x20nr0 => k_is
    case x21sa => k_is
    case x21ga => k_is
    case x21gg => k_is
    case x21oc => k_is
    case x21kp => k_is
    case x21e0 => k_exc
    case xog => k_is
    case xot => k_is
    case xbS => k_is
    case xiS => k_is
    case xtS => k_is
    case z_len => k_is
    case z_int => k_is
    case z_bool => k_is
    case z_str => k_is
    case z_tuple => k_is
    case z_list => k_is
    case z_zip => k_is
    case z_enumerate => k_is
    case z_range => k_is
    case z_max => k_is
    case z_min => k_is
    case z_sum => k_is
    case z_all => k_is
    case z_any => k_is
    case z_isinstance => k_is
    case z_iter => k_is
    case z_sorted => k_is
    case z_reversed => k_is
    case z_ValueError => k_is
    case hasc => rfl

